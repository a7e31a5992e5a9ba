/-
  PLAIN MATHEMATICS OF TERMS: trees, how heavy they are, how many parts they have. Nothing of the program stands here.
  TERMS IN MEMORY: what a record of seven cells stands for, what keeps it, how one that came in is opened.
  PACKAGE weigh, AND WHAT THE LAWS HOLD TERMS AGAINST: parts, ownWeight.
  PACKAGE weigh: room, Weight, Above; the reference's Weight, Above.
  PACKAGE weigh: Weight, Above; the reference's Weight, Above.
  THE REFERENCE's Weight AND Above.
  TERMS THAT ARE MADE; WHAT EVERY PROGRAM ANSWERS THAT IS ONE: awake of beehivelaw3.
  TERMS WHOSE MEMORY LIES IN SOME BLOCKS: what keeps them when others are written.
-/
import Derived.Test.YtmcfokeibecopaaK1
import Derived.OpenShut
import Derived.ProofKit
import Derived.Lib.SmallJoins
import Derived.Deep.DeepCutAuto
namespace Go.Proofs.Ytmcfokeibecopaa

/-- A term: its kind, number, sign, limbs, bits, bytes, arguments. -/
inductive Tm where
  | mk (k n : Int) (g : Bool) (l : List Nat) (u : Int) (s : ByteArray) (ks : List Tm)
namespace Tm
instance : Inhabited Tm := ⟨.mk 0 0 false [] 0 ⟨#[]⟩ []⟩

def kind : Tm → Int | .mk k _ _ _ _ _ _ => k
def num : Tm → Int | .mk _ n _ _ _ _ _ => n
def neg : Tm → Bool | .mk _ _ g _ _ _ _ => g
def mag : Tm → List Nat | .mk _ _ _ l _ _ _ => l
def bits : Tm → Int | .mk _ _ _ _ u _ _ => u
def bytes : Tm → ByteArray | .mk _ _ _ _ _ s _ => s
def args : Tm → List Tm | .mk _ _ _ _ _ _ ks => ks

set_option maxRecDepth 100000 in
/-- Induction over terms. -/
theorem ind {P : Tm → Prop} (h : ∀ k n g l u s ks, (∀ t ∈ ks, P t) → P (.mk k n g l u s ks)) : ∀ t, P t
  | .mk k n g l u s ks => h k n g l u s ks (go ks)
where go : ∀ ks : List Tm, ∀ t ∈ ks, P t
  | [], _, hm => nomatch hm
  | a :: r, t, hm => by
    rcases List.mem_cons.1 hm with e | hm
    · rw [e]; exact ind h a
    · exact go r t hm

mutual
/-- How heavy a term is. -/
def wt : Tm → Nat
  | .mk k _ _ l _ s ks => if k = 2 then 1 + l.length else if k = 9 then 1 + s.size / 8 else if k = 6 ∨ k = 8 then 1 + wts ks else 1
def wts : List Tm → Nat
  | [] => 0
  | t :: r => wt t + wts r
end
set_option maxRecDepth 100000 in
theorem wts_append (a b : List Tm) : wts (a ++ b) = wts a + wts b := by
  induction a with
  | nil => simp [wts]
  | cons t r ih => simp [wts, ih]; omega
set_option maxRecDepth 100000 in
theorem wts_take_succ {ts : List Tm} {i : Nat} {t : Tm} (h : ts[i]? = some t) : wts (ts.take (i + 1)) = wts (ts.take i) + wt t := by
  rw [List.take_add_one, h, wts_append]
  simp [wts]
set_option maxRecDepth 100000 in
theorem wt_pos (t : Tm) : 1 ≤ t.wt := by
  cases t
  rw [wt]
  split
  · omega
  split
  · omega
  split <;> omega
set_option maxRecDepth 100000 in
theorem wts_take_le (ts : List Tm) (i : Nat) : wts (ts.take i) ≤ wts ts := by
  have := wts_append (ts.take i) (ts.drop i)
  rw [List.take_append_drop] at this
  omega
set_option maxRecDepth 100000 in
theorem wts_len (ts : List Tm) : ts.length ≤ wts ts := by
  induction ts with
  | nil => simp [wts]
  | cons t r ih => have := wt_pos t; simp [wts]; omega

mutual
/-- No part has too many bytes or limbs. -/
def Ok : Tm → Prop
  | .mk _ _ _ l _ s ks => l.length ≤ 300 ∧ s.size ≤ 65535 ∧ Oks ks
def Oks : List Tm → Prop
  | [] => True
  | t :: r => Ok t ∧ Oks r
end
set_option maxRecDepth 100000 in
theorem oks_iff {ts : List Tm} : Oks ts ↔ ∀ t ∈ ts, Ok t := by
  induction ts with
  | nil => simp [Oks]
  | cons t r ih => simp [Oks, ih]
set_option maxRecDepth 100000 in
theorem ok_mk {k n : Int} {g : Bool} {l : List Nat} {u : Int} {s : ByteArray} {ks : List Tm} : Ok (.mk k n g l u s ks) ↔ l.length ≤ 300 ∧ s.size ≤ 65535 ∧ ∀ t ∈ ks, Ok t := by
  rw [Ok, oks_iff]

/-- Has a term itself too many bytes or limbs? -/
def big : Tm → Bool | .mk _ _ _ l _ s _ => decide (1000 < s.size) || decide (40 < l.length)
mutual
/-- How many parts the arguments of a term have, as far as so many. -/
def prt : Tm → Int → Int
  | .mk _ _ _ _ _ _ ks, most => prts ks 0 most
def prts : List Tm → Int → Int → Int
  | [], n, _ => n
  | t :: r, n, most => if n ≤ most then if big t then most + 1 else prts r (n + 1 + prt t (most - n - 1)) most else n
end

/-- How many parts a term has, itself among them. -/
def size : Tm → Nat
  | .mk _ _ _ _ _ _ ks => 1 + sizes ks
where sizes : List Tm → Nat
  | [] => 0
  | t :: r => size t + sizes r

set_option maxRecDepth 100000 in
theorem prts_bound (ts : List Tm) (h : ∀ t ∈ ts, ∀ most, -1 ≤ most → 0 ≤ prt t most ∧ prt t most ≤ most + 1) :
    ∀ n most : Int, 0 ≤ n → n ≤ most + 1 → n ≤ prts ts n most ∧ prts ts n most ≤ most + 1 := by
  induction ts with
  | nil => intro n most _ h1; simp only [prts]; omega
  | cons t r ih =>
    intro n most h0 h1
    simp only [prts]
    split
    · split
      · omega
      · have hp := h t List.mem_cons_self (most - n - 1) (by omega)
        have := ih (fun x hx => h x (List.mem_cons_of_mem _ hx)) (n + 1 + prt t (most - n - 1)) most (by omega) (by omega)
        omega
    · omega
set_option maxRecDepth 100000 in
theorem prt_bound (t : Tm) : ∀ most : Int, -1 ≤ most → 0 ≤ prt t most ∧ prt t most ≤ most + 1 := by
  induction t using ind with
  | h k n g l u s ks ih =>
    intro most hm
    rw [prt]
    exact prts_bound ks ih 0 most (by omega) (by omega)
set_option maxRecDepth 100000 in
theorem prts_bd (ts : List Tm) (n most : Int) (h0 : 0 ≤ n) (h1 : n ≤ most + 1) : n ≤ prts ts n most ∧ prts ts n most ≤ most + 1 :=
  prts_bound ts (fun t _ => prt_bound t) n most h0 h1

set_option maxRecDepth 100000 in
theorem prts_fine (ts : List Tm) (h : ∀ t ∈ ts, ∀ most : Int, prt t most ≤ most → -1 ≤ most → (∀ x ∈ t.args, Ok x) ∧ (t.size : Int) ≤ prt t most + 1) :
    ∀ n most : Int, 0 ≤ n → prts ts n most ≤ most → n + (size.sizes ts : Nat) ≤ prts ts n most ∧ ∀ t ∈ ts, Ok t := by
  induction ts with
  | nil => intro n most _ _; simp [prts, size.sizes]
  | cons t r ih =>
    intro n most h0 h1
    simp only [prts] at h1 ⊢
    by_cases hn : n ≤ most
    · rw [if_pos hn] at h1 ⊢
      by_cases hb : big t = true
      · rw [if_pos hb] at h1; omega
      · rw [if_neg hb] at h1 ⊢
        have hp := prt_bound t (most - n - 1) (by omega)
        have hbd := prts_bd r (n + 1 + prt t (most - n - 1)) most (by omega) (by omega)
        obtain ⟨i1, i2⟩ := ih (fun x hx => h x (List.mem_cons_of_mem _ hx)) _ most (by omega) h1
        obtain ⟨j1, j2⟩ := h t List.mem_cons_self (most - n - 1) (by omega) (by omega)
        refine ⟨by simp only [size.sizes]; omega, fun x hx => ?_⟩
        rcases List.mem_cons.1 hx with rfl | hx
        · cases x with
          | mk k n g l u s ks =>
            simp [big] at hb
            rw [ok_mk]
            exact ⟨by omega, by omega, j1⟩
        · exact i2 x hx
    · rw [if_neg hn] at h1; omega
set_option maxRecDepth 100000 in
theorem prt_fine (t : Tm) : ∀ most : Int, prt t most ≤ most → -1 ≤ most → (∀ x ∈ t.args, Ok x) ∧ (t.size : Int) ≤ prt t most + 1 := by
  induction t using ind with
  | h k n g l u s ks ih =>
    intro most h1 h2
    rw [prt] at h1 ⊢
    obtain ⟨i1, i2⟩ := prts_fine ks ih 0 most (by omega) h1
    refine ⟨i2, ?_⟩
    rw [size]
    omega
set_option maxRecDepth 100000 in
/-- Of terms that are not more than is gone through each one is modest, and there are not too many. -/
theorem fine {ts : List Tm} {most : Int} (h : prts ts 0 most ≤ most) : (size.sizes ts : Int) ≤ most ∧ ∀ t ∈ ts, Ok t := by
  obtain ⟨i1, i2⟩ := prts_fine ts (fun t _ => prt_fine t) 0 most (by omega) h
  exact ⟨by omega, i2⟩
set_option maxRecDepth 100000 in
theorem size_pos (t : Tm) : 1 ≤ t.size := by cases t; rw [size]; omega
set_option maxRecDepth 100000 in
theorem sizes_len (ts : List Tm) : ts.length ≤ size.sizes ts := by
  induction ts with
  | nil => simp
  | cons t r ih => have := size_pos t; simp [size.sizes]; omega

set_option maxRecDepth 100000 in
theorem prts_append (a b : List Tm) : ∀ n most : Int, prts (a ++ b) n most = if prts a n most ≤ most then prts b (prts a n most) most else prts a n most := by
  induction a with
  | nil =>
    intro n most
    have e : prts [] n most = n := by rw [prts]
    rw [e, List.nil_append]
    by_cases hn : n ≤ most
    · rw [if_pos hn]
    · rw [if_neg hn]
      cases b with
      | nil => exact e
      | cons t r => rw [prts, if_neg hn]
  | cons t r ih =>
    intro n most
    by_cases hn : n ≤ most
    · by_cases hb : big t = true
      · have e : prts (t :: r) n most = most + 1 := by rw [prts, if_pos hn, if_pos hb]
        rw [e, List.cons_append, prts, if_pos hn, if_pos hb, if_neg (by omega)]
      · have e : prts (t :: r) n most = prts r (n + 1 + prt t (most - n - 1)) most := by rw [prts, if_pos hn, if_neg hb]
        rw [e, List.cons_append, prts, if_pos hn, if_neg hb]
        exact ih _ _
    · have e : prts (t :: r) n most = n := by rw [prts, if_neg hn]
      rw [e, List.cons_append, prts, if_neg hn, if_neg hn]

end Tm
end Go.Proofs.Ytmcfokeibecopaa

namespace Go.Proofs.Ytmcfokeibecopaa
open Go.RowKit Go.ChangeShapes Go.WideShapes

/-- A term's own cells. -/
structure TR where
  k : Int
  n : Int
  g : Bool
  A : Option Addr
  ln : Nat
  lc : Nat
  u : Int
  s : ByteArray
  B : Option Addr
  m : Nat
  d : Nat
instance : Inhabited TR := ⟨0, 0, false, none, 0, 0, 0, ⟨#[]⟩, none, 0, 0⟩

/-- The element at 'b, o' is the record. -/
structure At7 (w : World) (b o : Nat) (r : TR) : Prop where
  c0 : w.cell? ⟨b, o, none⟩ = some (.int .i64 r.k)
  c1 : w.cell? ⟨b, o + 1, none⟩ = some (.int .i64 r.n)
  c2 : w.cell? ⟨b, o + 2, none⟩ = some (.bool r.g)
  c3 : w.cell? ⟨b, o + 3, none⟩ = some (.slice r.A r.ln r.lc)
  c4 : w.cell? ⟨b, o + 4, none⟩ = some (.int .u64 r.u)
  c5 : w.cell? ⟨b, o + 5, none⟩ = some (.string r.s)
  c6 : w.cell? ⟨b, o + 6, none⟩ = some (.slice r.B r.m r.d)
set_option maxRecDepth 100000 in
theorem At7.below {w w' : World} {b o : Nat} {r : TR} (h : At7 w b o r) (hb : Below w.heap.size w w') (hlt : b < w.heap.size) : At7 w' b o r :=
  ⟨(hb.cell (p := ⟨b, o, none⟩) hlt).trans h.c0, (hb.cell (p := ⟨b, o + 1, none⟩) hlt).trans h.c1, (hb.cell (p := ⟨b, o + 2, none⟩) hlt).trans h.c2, (hb.cell (p := ⟨b, o + 3, none⟩) hlt).trans h.c3,
    (hb.cell (p := ⟨b, o + 4, none⟩) hlt).trans h.c4, (hb.cell (p := ⟨b, o + 5, none⟩) hlt).trans h.c5, (hb.cell (p := ⟨b, o + 6, none⟩) hlt).trans h.c6⟩
set_option maxRecDepth 100000 in
theorem At7.lt {w : World} {b o : Nat} {r : TR} (h : At7 w b o r) : b < w.heap.size := World.block_lt_of_cell? w _ h.c0

/-- The record's plain fields are such as may stand there; its limbs are l. -/
structure Flat (w : World) (r : TR) (l : List Nat) : Prop where
  k0 : -9223372036854775808 ≤ r.k
  k1 : r.k ≤ 9223372036854775807
  n0 : -9223372036854775808 ≤ r.n
  n1 : r.n ≤ 9223372036854775807
  u0 : 0 ≤ r.u
  u1 : r.u ≤ 18446744073709551615
  lim : Lim w r.A r.ln r.lc l
  cap : r.lc ≤ maxLen
  str : r.s.size ≤ maxLen
  md : r.m ≤ r.d
  dd : r.d ≤ maxLen
set_option maxRecDepth 100000 in
theorem Flat.below {w w' : World} {r : TR} {l : List Nat} (h : Flat w r l) (hb : Below w.heap.size w w') : Flat w' r l :=
  ⟨h.k0, h.k1, h.n0, h.n1, h.u0, h.u1, h.lim.below hb, h.cap, h.str, h.md, h.dd⟩

/-- The slice 'B' has the records V, so many. -/
def Spread (w : World) (B : Option Addr) (m : Nat) (V : Nat → TR) : Prop :=
  0 < m → ∃ b o, B = some ⟨b, o, none⟩ ∧ b < w.heap.size ∧ ∀ i, i < m → At7 w b (o + i * 7) (V i)
set_option maxRecDepth 100000 in
theorem Spread.below {w w' : World} {B : Option Addr} {m : Nat} {V : Nat → TR} (h : Spread w B m V) (hb : Below w.heap.size w w') : Spread w' B m V := fun hm => by
  obtain ⟨b, o, e, hlt, hc⟩ := h hm
  exact ⟨b, o, e, Nat.lt_of_lt_of_le hlt hb.size, fun i hi => (hc i hi).below hb hlt⟩

/-- The record stands for the term. -/
inductive TV (w : World) : TR → Tm → Prop
  | mk (r : TR) (l : List Nat) (ks : List Tm) (V : Nat → TR) (hf : Flat w r l) (hm : ks.length = r.m) (hs : Spread w r.B r.m V)
    (hk : ∀ i t, ks[i]? = some t → TV w (V i) t) : TV w r (.mk r.k r.n r.g l r.u r.s ks)

set_option maxRecDepth 100000 in
theorem TV.bel {w w' : World} {r : TR} {t : Tm} (h : TV w r t) (hb : Below w.heap.size w w') : TV w' r t := by
  induction h with
  | mk r l ks V hf hm hs hk ih => exact .mk r l ks V (hf.below hb) hm (hs.below hb) ih

/-- The slice stands for the terms. -/
structure TVs (w : World) (B : Option Addr) (m d : Nat) (ts : List Tm) : Prop where
  len : ts.length = m
  md : m ≤ d
  dd : d ≤ maxLen
  el : ∃ V : Nat → TR, Spread w B m V ∧ ∀ i t, ts[i]? = some t → TV w (V i) t
set_option maxRecDepth 100000 in
theorem TVs.below {w w' : World} {B : Option Addr} {m d : Nat} {ts : List Tm} (h : TVs w B m d ts) (hb : Below w.heap.size w w') : TVs w' B m d ts := by
  obtain ⟨V, h1, h2⟩ := h.el
  exact ⟨h.len, h.md, h.dd, V, h1.below hb, fun i t e => (h2 i t e).bel hb⟩
set_option maxRecDepth 100000 in
theorem TVs.nil (w : World) (B : Option Addr) (d : Nat) (hd : d ≤ maxLen) : TVs w B 0 d [] :=
  ⟨rfl, Nat.zero_le _, hd, fun _ => default, fun h => absurd h (by omega), fun i t e => by simp at e⟩
set_option maxRecDepth 100000 in
/-- One of them. -/
theorem TVs.get {w : World} {B : Option Addr} {m d : Nat} {ts : List Tm} (h : TVs w B m d ts) (i : Nat) (hi : i < m) :
    ∃ b o r t, B = some ⟨b, o, none⟩ ∧ b < w.heap.size ∧ At7 w b (o + i * 7) r ∧ ts[i]? = some t ∧ TV w r t := by
  obtain ⟨V, h1, h2⟩ := h.el
  obtain ⟨b, o, e, hlt, hc⟩ := h1 (by omega)
  have hg : ts[i]? = some (ts[i]'(by rw [h.len]; exact hi)) := List.getElem?_eq_getElem (by rw [h.len]; exact hi)
  exact ⟨b, o, V i, _, e, hlt, hc i hi, hg, h2 i _ hg⟩

section
variable {w : World} {r : TR} {t : Tm}
set_option maxRecDepth 100000 in
theorem TV.flat (h : TV w r t) : Flat w r t.mag := by cases h; assumption
set_option maxRecDepth 100000 in
theorem TV.kind (h : TV w r t) : t.kind = r.k := by cases h; rfl
set_option maxRecDepth 100000 in
theorem TV.num (h : TV w r t) : t.num = r.n := by cases h; rfl
set_option maxRecDepth 100000 in
theorem TV.neg (h : TV w r t) : t.neg = r.g := by cases h; rfl
set_option maxRecDepth 100000 in
theorem TV.bits (h : TV w r t) : t.bits = r.u := by cases h; rfl
set_option maxRecDepth 100000 in
theorem TV.bytes (h : TV w r t) : t.bytes = r.s := by cases h; rfl
set_option maxRecDepth 100000 in
theorem TV.magLen (h : TV w r t) : t.mag.length = r.ln := h.flat.lim.1
set_option maxRecDepth 100000 in
theorem TV.args (h : TV w r t) : TVs w r.B r.m r.d t.args := by
  cases h with
  | mk _ l ks V hf hm hs hk => exact ⟨hm, hf.md, hf.dd, V, hs, hk⟩
set_option maxRecDepth 100000 in
theorem TV.len (h : TV w r t) : t.args.length = r.m := h.args.len
end
set_option maxRecDepth 100000 in
theorem TV.make {w : World} {r : TR} {l : List Nat} {ks : List Tm} (hf : Flat w r l) (hs : TVs w r.B r.m r.d ks) : TV w r (.mk r.k r.n r.g l r.u r.s ks) := by
  obtain ⟨V, h1, h2⟩ := hs.el
  exact .mk r l ks V hf hs.len h1 h2

/-! ### A term that came in -/
set_option maxRecDepth 100000 in
theorem cells_term : Try.prog.cellsOf 28 = 7 := by kernel_rfl
set_option maxRecDepth 100000 in
theorem cells_num' : Try.prog.cellsOf 24 = 2 := by kernel_rfl
set_option maxRecDepth 100000 in
theorem cells_int' : Try.prog.cellsOf 3 = 1 := by kernel_rfl
set_option maxRecDepth 100000 in
theorem cells_bool' : Try.prog.cellsOf 4 = 1 := by kernel_rfl
set_option maxRecDepth 100000 in
theorem cells_limbs' : Try.prog.cellsOf 22 = 1 := by kernel_rfl
set_option maxRecDepth 100000 in
theorem cells_u64' : Try.prog.cellsOf 25 = 1 := by kernel_rfl
set_option maxRecDepth 100000 in
theorem cells_string' : Try.prog.cellsOf 9 = 1 := by kernel_rfl
set_option maxRecDepth 100000 in
theorem cells_terms' : Try.prog.cellsOf 26 = 1 := by kernel_rfl

set_option maxRecDepth 100000 in
theorem add_none (b o j : Nat) : (⟨b, o, none⟩ : Addr).add j = ⟨b, o + j, none⟩ := by unfold Addr.add; split <;> simp_all

set_option maxRecDepth 100000 in
/-- Limbs that came in. -/
theorem open_lim {H : Type} {enc : TypeId × Value → H} {W : World} {fuel : Nat} {cs : List Value} {x : DataW H × List MemPlace}
    (h : DataW.trod enc Try.prog W 0 (fun _ => true) true fuel 22 cs = some x) :
    ∃ (A : Option Addr) (n c : Nat) (l : List Nat), cs = [.slice A n c] ∧ Lim W A n c l ∧ c ≤ maxLen := by
  rcases open_ints Try.underlying22 Try.underlying60 (by kernel_rfl) h with ⟨e1, _⟩ | ⟨a, len, cap, zs, e1, _, hl, hm, hz, _, hcell, hwz⟩
  · exact ⟨none, 0, 0, [], e1, Lim.nil W none 0, Nat.zero_le _⟩
  · simp only [if_true] at hz
    have hb : ∀ j, j < zs.length → 0 ≤ zs.getD j 0 ∧ zs.getD j 0 ≤ 4294967295 := fun j hj => by
      have hmem : zs.getD j 0 ∈ zs := by
        rw [List.getD_eq_getElem?_getD, List.getElem?_eq_getElem hj, Option.getD_some]
        exact List.getElem_mem hj
      have := hwz _ hmem
      generalize zs.getD j 0 = y at this ⊢
      simp [Lit.wf, IntKind.min, IntKind.max, IntKind.signed, IntKind.bits] at this
      omega
    have hlg : ∀ j, j < len → Lm.lg ((zs.take len).map Int.toNat) j = (zs.getD j 0).toNat := fun j hj => by
      simp only [Lm.lg, List.getD_eq_getElem?_getD, List.getElem?_map, List.getElem?_take_of_lt hj]
      rw [List.getElem?_eq_getElem (by omega)]
      rfl
    refine ⟨some a, len, cap, (zs.take len).map Int.toNat, e1, ⟨?_, hl, ?_, fun hn => ?_⟩, hm⟩
    · rw [List.length_map, List.length_take]; omega
    · intro x hx
      rw [List.mem_map] at hx
      obtain ⟨y, hy, rfl⟩ := hx
      have := hwz y (List.mem_of_mem_take hy)
      simp [Lit.wf, IntKind.min, IntKind.max, IntKind.signed, IntKind.bits] at this
      omega
    · have h0 := hcell 0 (by omega)
      have hspot : a.spot = none := by
        have := World.cell?_spot h0
        simpa [Addr.add] using this
      obtain ⟨b, o, sp⟩ := a
      simp only at hspot
      subst hspot
      refine ⟨b, o, rfl, ?_, fun j hj => ?_⟩
      · have := World.block_lt_of_cell? W _ h0
        rw [add_none] at this
        exact this
      · rw [hlg j hj, ← add_none b o j, hcell j (by omega)]
        have := hb j (by omega)
        congr 2
        omega

set_option maxRecDepth 100000 in
theorem list7 {α : Type} {cs : List α} (h : cs.length = 7) : ∃ c0 c1 c2 c3 c4 c5 c6, cs = [c0, c1, c2, c3, c4, c5, c6] := by
  match cs, h with
  | [c0, c1, c2, c3, c4, c5, c6], _ => exact ⟨c0, c1, c2, c3, c4, c5, c6, rfl⟩

/-- A record's cells. -/
def TR.cells (r : TR) : List Value := [.int .i64 r.k, .int .i64 r.n, .bool r.g, .slice r.A r.ln r.lc, .int .u64 r.u, .string r.s, .slice r.B r.m r.d]

set_option maxRecDepth 100000 in
theorem At7.of {w : World} {b o : Nat} {r : TR} (h : ∀ i, i < 7 → w.cell? (Addr.add ⟨b, o, none⟩ i) = r.cells[i]?) : At7 w b o r := by
  simp only [add_none] at h
  exact ⟨h 0 (by omega), h 1 (by omega), h 2 (by omega), h 3 (by omega), h 4 (by omega), h 5 (by omega), h 6 (by omega)⟩

set_option maxRecDepth 100000 in
theorem wf_i64 {z : Int} (h : (Lit.int .i64 z).wf = true) : -9223372036854775808 ≤ z ∧ z ≤ 9223372036854775807 := by
  simp [Lit.wf, IntKind.min, IntKind.max, IntKind.signed, IntKind.bits] at h
  omega
set_option maxRecDepth 100000 in
theorem wf_u64 {z : Int} (h : (Lit.int .u64 z).wf = true) : 0 ≤ z ∧ z ≤ 18446744073709551615 := by
  simp [Lit.wf, IntKind.min, IntKind.max, IntKind.signed, IntKind.bits] at h
  omega

set_option maxRecDepth 100000 in
/-- A slice of terms that came in, its elements opened with less fuel. -/
theorem open_spread {H : Type} {enc : TypeId × Value → H} {W : World} {fuel : Nat} {cs : List Value} {x : DataW H × List MemPlace}
    (h : DataW.trod enc Try.prog W 0 (fun _ => true) true fuel 26 cs = some x)
    (ih : ∀ f, f < fuel → ∀ cs x, DataW.trod enc Try.prog W 0 (fun _ => true) true f 28 cs = some x → ∃ r t, cs = TR.cells r ∧ TV W r t) :
    ∃ (B : Option Addr) (m d : Nat) (ts : List Tm), cs = [.slice B m d] ∧ TVs W B m d ts := by
  rcases DataW.trod_slice Try.underlying26 h with ⟨h0, _⟩ | ⟨a, len, cap, elems, rest, n, hfu, hcs, _, hb, hl, hm, hlen, hel, _, _⟩
  · exact ⟨none, 0, 0, [], h0, TVs.nil W none 0 (Nat.zero_le _)⟩
  · rw [cells_term] at hel
    have each : ∀ i, i < len → ∃ y : TR × Tm, (∀ j, j < 7 → W.cell? ((a.add (i * 7)).add j) = (TR.cells y.1)[j]?) ∧ TV W y.1 y.2 := fun i hi => by
      have h1 := hel i hi
      rw [List.getElem?_eq_getElem (by omega)] at h1
      obtain ⟨cs', h2, h3⟩ := Option.bind_eq_some_iff.1 h1
      obtain ⟨r, t, rfl, htv⟩ := ih n (by omega) cs' _ h3
      obtain ⟨_, _, h4⟩ := World.cells?_some h2
      exact ⟨⟨r, t⟩, h4, htv⟩
    obtain ⟨F, hF⟩ := Go.Deep.choose_lt (α := TR × Tm) each
    refine ⟨some a, len, cap, (List.range len).map fun i => (F i).2, hcs, ⟨by simp, hl, hm, fun i => (F i).1, fun hn => ?_, fun i t e => ?_⟩⟩
    · have h0 := (hF 0 hn).1 0 (by omega)
      have h0' : W.cell? ((a.add (0 * 7)).add 0) = some (.int .i64 (F 0).1.k) := h0
      have hspot : a.spot = none := by
        have := World.cell?_spot h0'
        simpa [Addr.add] using this
      obtain ⟨b, o, sp⟩ := a
      simp only at hspot
      subst hspot
      refine ⟨b, o, rfl, ?_, fun i hi => ?_⟩
      · have := World.block_lt_of_cell? W _ h0'
        rw [add_none, add_none] at this
        exact this
      · have := (hF i hi).1
        rw [add_none] at this
        exact At7.of this
    · rw [List.getElem?_map] at e
      by_cases hi : i < len
      · rw [List.getElem?_range hi] at e
        simp only [Option.map_some, Option.some.injEq] at e
        rw [← e]
        exact (hF i hi).2
      · rw [List.getElem?_eq_none (by simp; omega)] at e
        simp at e

set_option maxRecDepth 100000 in
/-- A term that came in. -/
theorem open_tr {H : Type} {enc : TypeId × Value → H} {W : World} : ∀ (fuel : Nat) (cs : List Value) (x : DataW H × List MemPlace),
    DataW.trod enc Try.prog W 0 (fun _ => true) true fuel 28 cs = some x → ∃ r t, cs = TR.cells r ∧ TV W r t := by
  intro fuel
  induction fuel using Nat.strongRecOn with
  | ind fuel ih =>
    intro cs x h
    obtain ⟨xs, n, hfu, _, hcl, hxl, hf⟩ := DataW.trod_struct Try.underlying28 h
    rw [cells_term] at hcl
    obtain ⟨c0, c1, c2, c3, c4, c5, c6, rfl⟩ := list7 hcl
    have get : ∀ i, i < 6 → ∃ y, xs[i]? = some y := fun i hi => ⟨_, List.getElem?_eq_getElem (by rw [hxl]; exact hi)⟩
    have f0 : DataW.trod enc Try.prog W 0 (fun _ => true) true n 3 [c0] = xs[0]? := by simpa [cells_int'] using hf 0 _ rfl
    have f1 : DataW.trod enc Try.prog W 0 (fun _ => true) true n 3 [c1] = xs[1]? := by simpa [cells_int'] using hf 1 _ rfl
    have f2 : DataW.trod enc Try.prog W 0 (fun _ => true) true n 24 [c2, c3] = xs[2]? := by simpa [cells_num'] using hf 2 _ rfl
    have f3 : DataW.trod enc Try.prog W 0 (fun _ => true) true n 25 [c4] = xs[3]? := by simpa [cells_u64'] using hf 3 _ rfl
    have f4 : DataW.trod enc Try.prog W 0 (fun _ => true) true n 9 [c5] = xs[4]? := by simpa [cells_string'] using hf 4 _ rfl
    have f5 : DataW.trod enc Try.prog W 0 (fun _ => true) true n 26 [c6] = xs[5]? := by simpa [cells_terms'] using hf 5 _ rfl
    obtain ⟨y0, e0⟩ := get 0 (by omega)
    obtain ⟨y1, e1⟩ := get 1 (by omega)
    obtain ⟨y2, e2⟩ := get 2 (by omega)
    obtain ⟨y3, e3⟩ := get 3 (by omega)
    obtain ⟨y4, e4⟩ := get 4 (by omega)
    obtain ⟨y5, e5⟩ := get 5 (by omega)
    rw [e0] at f0; rw [e1] at f1; rw [e2] at f2; rw [e3] at f3; rw [e4] at f4; rw [e5] at f5
    obtain ⟨k, q0, _, wk⟩ := DataW.trod_int Try.underlying3 f0
    obtain ⟨nn, q1, _, wn⟩ := DataW.trod_int Try.underlying3 f1
    obtain ⟨u, q3, _, wu⟩ := DataW.trod_int Try.underlying25 f3
    obtain ⟨s, q4, _, ws⟩ := DataW.trod_string Try.underlying9 f4
    obtain ⟨zs, n', _, _, _, hzl, hz⟩ := DataW.trod_struct Try.underlying24 f2
    have g0 : DataW.trod enc Try.prog W 0 (fun _ => true) true n' 4 [c2] = zs[0]? := by simpa [cells_bool'] using hz 0 _ rfl
    have g1 : DataW.trod enc Try.prog W 0 (fun _ => true) true n' 22 [c3] = zs[1]? := by simpa [cells_limbs'] using hz 1 _ rfl
    have hzl2 : zs.length = 2 := hzl
    obtain ⟨z0, hz0⟩ : ∃ y, zs[0]? = some y := ⟨_, List.getElem?_eq_getElem (by omega)⟩
    obtain ⟨z1, hz1⟩ : ∃ y, zs[1]? = some y := ⟨_, List.getElem?_eq_getElem (by omega)⟩
    rw [hz0] at g0; rw [hz1] at g1
    obtain ⟨g, q2, _⟩ := DataW.trod_bool Try.underlying4 g0
    obtain ⟨A, ln, lc, l, q3', hlim, hlc⟩ := open_lim g1
    obtain ⟨B, m, d, ts, q5, hts⟩ := open_spread f5 (fun f hf cs x h => ih f (by omega) cs x h)
    simp only [List.cons.injEq, and_true] at q0 q1 q2 q3 q3' q4 q5
    subst q0 q1 q2 q3 q3' q4 q5
    have b0 := wf_i64 wk
    have b1 := wf_i64 wn
    have b3 := wf_u64 wu
    exact ⟨⟨k, nn, g, A, ln, lc, u, s, B, m, d⟩, _, rfl, TV.make ⟨b0.1, b0.2, b1.1, b1.2, b3.1, b3.2, hlim, hlc, ws, hts.md, hts.dd⟩ hts⟩

set_option maxRecDepth 100000 in
set_option maxRecDepth 100000 in
theorem open_term {H : Type} {enc : TypeId × Value → H} {W : World} {base : Nat} {v : Value} {d : DataW H} {p : List MemPlace}
    (hv : Value.okWide Try.prog W .any base 28 v) (h : DataW.Trod enc Try.prog W 0 (fun _ => true) true 28 v d p) :
    ∃ (r : TR) (t : Tm), v = .agg #[.int .i64 r.k, .int .i64 r.n, .bool r.g, .slice r.A r.ln r.lc, .int .u64 r.u, .string r.s, .slice r.B r.m r.d] ∧ TV W r t := by
  obtain ⟨cs, rfl, hsz⟩ := okWide_struct Try.underlying28 hv
  obtain ⟨fuel, hf⟩ := h
  obtain ⟨r, t, hc, htv⟩ := open_tr fuel _ _ hf
  refine ⟨r, t, ?_, htv⟩
  have : cs.toList = TR.cells r := by simpa [Value.cells] using hc
  congr 1
  apply Array.ext'
  rw [this]
  rfl
set_option maxRecDepth 100000 in
set_option maxRecDepth 100000 in
theorem open_terms {H : Type} {enc : TypeId × Value → H} {W : World} {v : Value} {d : DataW H} {p : List MemPlace}
    (hv : ∃ a n c, v = .slice a n c) (h : DataW.Trod enc Try.prog W 0 (fun _ => true) true 26 v d p) :
    ∃ (B : Option Addr) (m c : Nat) (ts : List Tm), v = .slice B m c ∧ TVs W B m c ts := by
  obtain ⟨a, n, c, rfl⟩ := hv
  obtain ⟨fuel, hf⟩ := h
  obtain ⟨B, m, d, ts, hc, hts⟩ := open_spread (fuel := fuel) (cs := [.slice a n c]) (by simpa [Value.cells] using hf) (fun f _ => open_tr f)
  simp only [List.cons.injEq, and_true] at hc
  exact ⟨B, m, d, ts, hc, hts⟩

end Go.Proofs.Ytmcfokeibecopaa

namespace Go.Proofs.Ytmcfokeibecopaa
open Go.RowKit

set_option maxRecDepth 100000 in
set_option maxHeartbeats 1000000 in
theorem own_any (w : World) (r : TR) (t : Tm) (h : TV w r t) (ho : t.Ok) (own : Nat) (hown : own = if t.kind = 2 then 1 + t.mag.length else if t.kind = 9 then 1 + t.bytes.size / 8 else 1) :
    Calls Try.prog 69 #[.agg #[.int .i64 r.k, .int .i64 r.n, .bool r.g, .slice r.A r.ln r.lc, .int .u64 r.u, .string r.s, .slice r.B r.m r.d]] w fun e w' => e = .returned (.int .i64 (own : Int)) ∧ Below w.heap.size w w' := by
  have hl : r.ln ≤ 300 := by rw [← h.magLen]; cases t; exact (Tm.ok_mk.1 ho).1
  have hs : r.s.size ≤ 65535 := by rw [← h.bytes]; cases t; exact (Tm.ok_mk.1 ho).2.1
  rw [h.kind, h.magLen, h.bytes] at hown
  have H := Lib.hid hown
  clear hown
  go_enter Try.func69, Try.ntmps69
  go_wp2
  all_goals
    go_ret
    refine ⟨?_, (Below.refl _ _).alloc (Nat.le_refl _) _⟩
    have H' := H.out
    simp_all


set_option maxRecDepth 100000 in
theorem t_big {w : World} {r : TR} {t : Tm} (h : TV w r t) : t.big = (decide (1000 < r.s.size) || decide (40 < r.ln)) := by
  rw [← h.bytes, ← h.magLen]
  cases t
  rfl
set_option maxRecDepth 100000 in
theorem prts_step {ts : List Tm} {j : Nat} {t : Tm} {most z : Int} (e : ts[j]? = some t) (hz : z = Tm.prts (ts.take j) 0 most) (hle : z ≤ most) :
    Tm.prts (ts.take (j + 1)) 0 most = if t.big then most + 1 else z + 1 + t.prt (most - z - 1) := by
  rw [List.take_add_one, e, Tm.prts_append, ← hz, if_pos hle]
  simp only [Option.toList, Tm.prts]
  rw [if_pos hle]
set_option maxRecDepth 100000 in
theorem prts_end {ts : List Tm} {j : Nat} {most z : Int} (hz : z = Tm.prts (ts.take j) 0 most) (h : most < z ∨ ts.length ≤ j) : Tm.prts ts 0 most = z := by
  have := Tm.prts_append (ts.take j) (ts.drop j) 0 most
  rw [List.take_append_drop, ← hz] at this
  rw [this]
  rcases h with h | h
  · rw [if_neg (by omega)]
  · rw [List.drop_eq_nil_of_le h]
    split
    · rw [Tm.prts]
    · rfl

set_option maxRecDepth 100000 in
set_option maxHeartbeats 1000000 in
theorem parts_args (t : Tm) : ∀ (w : World) (B : Option Addr) (m d : Nat), TVs w B m d t.args → ∀ most : Int, -1 ≤ most → most ≤ 1000000 →
    Calls Try.prog 15 #[.slice B m d, .int .i64 most] w fun e w' => e = .returned (.int .i64 (Tm.prts t.args 0 most)) ∧ Below w.heap.size w w' := by
  induction t using Tm.ind with
  | h k n g l u s ks ih =>
    intro w B m d hts most hm0 hm1
    have IH := Lib.hid ih
    clear ih
    rw [show (Tm.mk k n g l u s ks).args = ks from rfl] at hts ⊢
    obtain ⟨R, hR⟩ : ∃ R, R = Tm.prts ks 0 most := ⟨_, rfl⟩
    rw [← hR]
    have HR := Lib.hid hR
    clear hR
    have hml : m ≤ maxLen := Nat.le_trans hts.md hts.dd
    have hml' : (m : Int) ≤ 9223372036854775807 := by unfold maxLen at hml; omega
    go_enter Try.func15, Try.ntmps15
    go_wp2_with fail
    go_loopw [5, 6] (fun n i w' => ∃ (j : Nat) (z : Int), j ≤ m ∧ i = .int .i64 (j : Int) ∧ n = .int .i64 z ∧ 0 ≤ z ∧ z ≤ most + 1 ∧ Hid (z = Tm.prts (ks.take j) 0 most) ∧ Below w.heap.size w w') (fun _ i _ => m - (intOf i).toNat)
    case atStart => exact ⟨0, 0, Nat.zero_le _, rfl, rfl, by omega, by omega, Lib.hid (by simp [Tm.prts]), Below.refl _ _⟩
    case round =>
      obtain ⟨j, z, hj, rfl, rfl, hz0, hz1, hz, hb⟩ := hrel
      by_cases hjm : j < m
      · by_cases hzm : z ≤ most
        · obtain ⟨b, o, r, t, e, hlt, h7, het, htv⟩ := (hts.below hb).get j hjm
          subst e
          have st := Lib.hid (prts_step het hz.out hzm)
          rw [t_big htv] at st
          have c5 := h7.c5
          have c3 := h7.c3
          have c6 := h7.c6
          by_cases h5 : 1000 < r.s.size
          · have hd : decide ((1000 : Int) < (r.s.size : Int)) = true := by rw [decide_eq_true_iff]; omega
            have hfin := Lib.hid (show R = most + 1 by
              rw [HR.out]
              refine prts_end (j := j + 1) (z := most + 1) ?_ (.inl (by omega))
              rw [st.out, if_pos (by simp [h5])])
            go_wp2_with fail
            go_ret
            exact ⟨by rw [hfin.out]; go_num, hb⟩
          · by_cases h3 : 40 < r.ln
            · have hd : decide ((1000 : Int) < (r.s.size : Int)) = false := by rw [decide_eq_false_iff_not]; omega
              have hd2 : decide ((40 : Int) < (r.ln : Int)) = true := by rw [decide_eq_true_iff]; omega
              have hfin := Lib.hid (show R = most + 1 by
                rw [HR.out]
                refine prts_end (j := j + 1) (z := most + 1) ?_ (.inl (by omega))
                rw [st.out, if_pos (by simp [h3])])
              go_wp2_with fail
              go_ret
              exact ⟨by rw [hfin.out]; go_num, hb⟩
            · have hd : decide ((1000 : Int) < (r.s.size : Int)) = false := by rw [decide_eq_false_iff_not]; omega
              have hd2 : decide ((40 : Int) < (r.ln : Int)) = false := by rw [decide_eq_false_iff_not]; omega
              have hst := Lib.hid (show Tm.prts (ks.take (j + 1)) 0 most = z + 1 + Tm.prts t.args 0 (most - z - 1) by
                rw [st.out, if_neg (by simp; omega)]
                cases t
                rw [Tm.prt]
                rfl)
              have hp := Tm.prts_bd t.args 0 (most - z - 1) (by omega) (by omega)
              go_wp2_with fail
              refine (IH.out t (List.mem_of_getElem? het) wr r.B r.m r.d htv.args (most - z - 1) (by omega) (by omega)).mono ?_
              generalize Tm.prts t.args 0 (most - z - 1) = q at hst hp ⊢
              rintro e w1 ⟨rfl, hb1⟩
              go_wp2_with fail
              exact ⟨⟨j + 1, z + 1 + q, by omega, by go_num, by go_num, by omega, by omega, Lib.hid hst.out.symm, hb.trans (hb1.mono hb.size)⟩, by simp [intOf]; omega⟩
        · have hfin := Lib.hid (show R = z by
            rw [HR.out]
            exact prts_end hz.out (.inl (by omega)))
          have hd : decide (z ≤ most) = false := by rw [decide_eq_false_iff_not]; exact hzm
          have hd1 : decide ((j : Int) < (m : Int)) = true := by rw [decide_eq_true_iff]; omega
          go_wp2_with fail
          go_ret
          exact ⟨by rw [hfin.out]; rfl, hb⟩
      · have hfin := Lib.hid (show R = z by
          rw [HR.out]
          exact prts_end hz.out (.inr (by rw [hts.len]; omega)))
        have hd1 : decide ((j : Int) < (m : Int)) = false := by rw [decide_eq_false_iff_not]; omega
        go_wp2_with fail
        go_ret
        exact ⟨by rw [hfin.out]; rfl, hb⟩


set_option maxRecDepth 100000 in
theorem parts_any (w : World) (B : Option Addr) (m d : Nat) (ts : List Tm) (h : TVs w B m d ts) (most : Int) (h0 : -1 ≤ most) (h1 : most ≤ 1000000) :
    Calls Try.prog 15 #[.slice B m d, .int .i64 most] w fun e w' => e = .returned (.int .i64 (Tm.prts ts 0 most)) ∧ Below w.heap.size w w' :=
  parts_args (.mk 0 0 false [] 0 ⟨#[]⟩ ts) w B m d h most h0 h1

/-- Are terms more than is gone through? -/
def greatB (ts : List Tm) (most : Int) : Bool := decide (most < Tm.prts ts 0 most)
set_option maxRecDepth 100000 in
theorem greatB_no {ts : List Tm} {most : Int} (h : greatB ts most = false) : (ts.length : Int) ≤ most ∧ ∀ t ∈ ts, t.Ok := by
  have h1 := of_decide_eq_false h
  obtain ⟨h2, h3⟩ := Tm.fine (ts := ts) (most := most) (by omega)
  exact ⟨by have := Tm.sizes_len ts; omega, h3⟩

set_option maxRecDepth 100000 in
set_option maxHeartbeats 1000000 in
theorem greats_any (w : World) (B : Option Addr) (m d : Nat) (ts : List Tm) (h : TVs w B m d ts) (most : Int) (h0 : -1 ≤ most) (h1 : most ≤ 1000000) :
    Calls Try.prog 5 #[.slice B m d, .int .i64 most] w fun e w' => e = .returned (.bool (greatB ts most)) ∧ Below w.heap.size w w' := by
  obtain ⟨g, hg⟩ : ∃ g, g = greatB ts most := ⟨_, rfl⟩
  rw [← hg]
  have HG := Lib.hid hg
  clear hg
  go_enter Try.func5, Try.ntmps5
  go_wp2_with fail
  refine (parts_any w B m d ts h most h0 h1).mono ?_
  have HG' : Hid (g = decide (most < Tm.prts ts 0 most)) := HG
  generalize Tm.prts ts 0 most = q at HG' ⊢
  rintro e w1 ⟨rfl, hb1⟩
  go_wp2_with fail
  go_ret
  exact ⟨by rw [HG'.out]; rfl, hb1⟩

set_option maxRecDepth 100000 in
/-- A row of one term, newly made. -/
theorem TVs.one {w : World} {r : TR} {t : Tm} (h : TV w r t) : TVs (w.alloc (.cells #[.int .i64 r.k, .int .i64 r.n, .bool r.g, .slice r.A r.ln r.lc, .int .u64 r.u, .string r.s, .slice r.B r.m r.d] 28)) (some ⟨w.heap.size, 0, none⟩) 1 1 [t] := by
  refine ⟨rfl, Nat.le_refl _, by decide, fun _ => r, fun _ => ⟨w.heap.size, 0, rfl, by simp, fun i hi => ?_⟩, fun i x e => ?_⟩
  · have : i = 0 := by omega
    subst this
    refine At7.of fun j hj => ?_
    rw [add_none, World.cell?_alloc_at _ _ _ _ rfl]
    simp [TR.cells]
  · cases i with
    | zero =>
      simp at e
      rw [← e]
      exact h.bel ((Below.refl _ _).alloc (Nat.le_refl _) _)
    | succ i => simp at e

set_option maxRecDepth 100000 in
set_option maxHeartbeats 1000000 in
theorem greatT_any (w : World) (r : TR) (t : Tm) (h : TV w r t) (most : Int) (h0 : -1 ≤ most) (h1 : most ≤ 1000000) :
    Calls Try.prog 4 #[.agg #[.int .i64 r.k, .int .i64 r.n, .bool r.g, .slice r.A r.ln r.lc, .int .u64 r.u, .string r.s, .slice r.B r.m r.d], .int .i64 most] w fun e w' => e = .returned (.bool (greatB [t] most)) ∧ Below w.heap.size w w' := by
  obtain ⟨g, hg⟩ : ∃ g, g = greatB [t] most := ⟨_, rfl⟩
  rw [← hg]
  have HG := Lib.hid hg
  clear hg
  have hb0 := (Below.refl w.heap.size w).alloc (Nat.le_refl _) (.cells #[.int .i64 r.k, .int .i64 r.n, .bool r.g, .slice r.A r.ln r.lc, .int .u64 r.u, .string r.s, .slice r.B r.m r.d] 28)
  have h2 := h.bel hb0
  go_enter Try.func4, Try.ntmps4
  go_wp2_with fail
  have h3 := TVs.one h2
  rw [World.size_alloc] at h3
  refine (parts_any _ _ 1 1 [t] (by exact h3) most h0 h1).mono ?_
  have HG' : Hid (g = decide (most < Tm.prts [t] 0 most)) := HG
  generalize Tm.prts [t] 0 most = q at HG' ⊢
  rintro e w1 ⟨rfl, hb1⟩
  go_wp2_with fail
  go_ret
  exact ⟨by rw [HG'.out]; rfl, (hb0.alloc (by simp) _).trans (hb1.mono (by simp; omega))⟩

end Go.Proofs.Ytmcfokeibecopaa

namespace Go.Proofs.Ytmcfokeibecopaa
open Go.RowKit

set_option maxRecDepth 100000 in
theorem Ok.limbs {w : World} {r : TR} {t : Tm} (h : TV w r t) (ho : t.Ok) : r.ln ≤ 300 := by rw [← h.magLen]; cases t; exact (Tm.ok_mk.1 ho).1
set_option maxRecDepth 100000 in
theorem Ok.bytes {w : World} {r : TR} {t : Tm} (h : TV w r t) (ho : t.Ok) : r.s.size ≤ 65535 := by rw [← h.bytes]; cases t; exact (Tm.ok_mk.1 ho).2.1
set_option maxRecDepth 100000 in
theorem Ok.kids {t x : Tm} (ho : t.Ok) (h : x ∈ t.args) : x.Ok := by cases t; exact (Tm.ok_mk.1 ho).2.2 x h

/-- The weight of a term without its arguments. -/
def ownW (t : Tm) : Nat := if t.kind = 2 then 1 + t.mag.length else if t.kind = 9 then 1 + t.bytes.size / 8 else 1
set_option maxRecDepth 100000 in
theorem wt_leaf {t : Tm} (h6 : t.kind ≠ 6) (h8 : t.kind ≠ 8) : t.wt = ownW t := by
  cases t with
  | mk k n g l u s ks =>
    have e : ownW (.mk k n g l u s ks) = if k = 2 then 1 + l.length else if k = 9 then 1 + s.size / 8 else 1 := rfl
    rw [e, Tm.wt, if_neg (show ¬ (k = 6 ∨ k = 8) from fun h => h.elim h6 h8)]
set_option maxRecDepth 100000 in
theorem wt_node {t : Tm} (h : t.kind = 6 ∨ t.kind = 8) : t.wt = 1 + Tm.wts t.args ∧ ownW t = 1 := by
  cases t with
  | mk k n g l u s ks =>
    have h' : k = 6 ∨ k = 8 := h
    have e : ownW (.mk k n g l u s ks) = if k = 2 then 1 + l.length else if k = 9 then 1 + s.size / 8 else 1 := rfl
    rw [e, Tm.wt, if_pos h', if_neg (show ¬ k = 2 by omega), if_neg (show ¬ k = 9 by omega), if_neg (show ¬ k = 2 by omega), if_neg (show ¬ k = 9 by omega)]
    exact ⟨rfl, rfl⟩
set_option maxRecDepth 100000 in
theorem wts_all {ts : List Tm} {j : Nat} (h : ts.length ≤ j) : Tm.wts (ts.take j) = Tm.wts ts := by rw [List.take_of_length_le h]
set_option maxRecDepth 100000 in
theorem ownW_le {w : World} {r : TR} {t : Tm} (h : TV w r t) (ho : t.Ok) : 1 ≤ ownW t ∧ ownW t ≤ 10000 := by
  have h1 := Ok.limbs h ho
  have h2 := Ok.bytes h ho
  rw [← h.magLen] at h1
  rw [← h.bytes] at h2
  unfold ownW
  split
  · omega
  · split <;> omega

/-- The boxed record. -/
def Box7 (w : World) (g : Nat) (r : TR) : Prop := w.heap[g]? = some (.cells #[.int .i64 r.k, .int .i64 r.n, .bool r.g, .slice r.A r.ln r.lc, .int .u64 r.u, .string r.s, .slice r.B r.m r.d] 28 (0, 0))
section
variable {w w' : World} {g : Nat} {r : TR}
set_option maxRecDepth 100000 in
theorem Box7.lt (h : Box7 w g r) : g < w.heap.size := (Array.getElem?_eq_some_iff.1 h).1
set_option maxRecDepth 100000 in
theorem Box7.new (w : World) (r : TR) : Box7 (w.alloc (.cells #[.int .i64 r.k, .int .i64 r.n, .bool r.g, .slice r.A r.ln r.lc, .int .u64 r.u, .string r.s, .slice r.B r.m r.d] 28)) w.heap.size r := heap_alloc_new w _
set_option maxRecDepth 100000 in
theorem Box7.below (h : Box7 w g r) (hb : Below w.heap.size w w') : Box7 w' g r := (hb.block g h.lt).trans h
set_option maxRecDepth 100000 in
theorem Box7.at (h : Box7 w g r) : At7 w g 0 r := by
  refine ⟨?_, ?_, ?_, ?_, ?_, ?_, ?_⟩ <;> (rw [cell_of_row w g _ _ _ (0, 0) h]; rfl)
set_option maxRecDepth 100000 in
theorem Box7.drew (h : Box7 w g r) : Box7 w.drew g r := h
end

set_option maxRecDepth 100000 in
set_option maxHeartbeats 2000000 in
theorem room_any (t : Tm) : ∀ (w : World) (r : TR), TV w r t → t.Ok → ∀ left : Int, 0 ≤ left → left ≤ 1000000 →
    Calls Try.prog 48 #[.agg #[.int .i64 r.k, .int .i64 r.n, .bool r.g, .slice r.A r.ln r.lc, .int .u64 r.u, .string r.s, .slice r.B r.m r.d], .int .i64 left] w fun e w' => e = .returned (.int .i64 (left - min left (t.wt : Int))) ∧ Below w.heap.size w w' := by
  induction t using Tm.ind with
  | h k n g l u s ks ih =>
    intro w r htv hok left hl0 hl1
    have IH := Lib.hid ih
    clear ih
    obtain ⟨t, ht⟩ : ∃ t, t = Tm.mk k n g l u s ks := ⟨_, rfl⟩
    have hks : t.args = ks := by rw [ht]; rfl
    rw [← hks] at IH
    rw [← ht] at htv hok ⊢
    clear hks ht
    have how := ownW_le htv hok
    obtain ⟨R, hR⟩ : ∃ R, R = left - min left (t.wt : Int) := ⟨_, rfl⟩
    rw [← hR]
    have HR := Lib.hid hR
    have hkk := htv.kind
    have hts := htv.args
    have hml : r.m ≤ maxLen := Nat.le_trans hts.md hts.dd
    have hml' : (r.m : Int) ≤ 9223372036854775807 := by unfold maxLen at hml; omega
    clear hR
    have hb0 := (Below.refl w.heap.size w).alloc (Nat.le_refl _) (.cells #[.int .i64 r.k, .int .i64 r.n, .bool r.g, .slice r.A r.ln r.lc, .int .u64 r.u, .string r.s, .slice r.B r.m r.d] 28)
    have hbx := Box7.new w r
    have htv0 := htv.bel hb0
    have hsz : w.heap.size < (w.alloc (.cells #[.int .i64 r.k, .int .i64 r.n, .bool r.g, .slice r.A r.ln r.lc, .int .u64 r.u, .string r.s, .slice r.B r.m r.d] 28)).heap.size := by simp
    go_enter Try.func48, Try.ntmps48
    go_wp2_with fail
    generalize w.alloc (.cells #[.int .i64 r.k, .int .i64 r.n, .bool r.g, .slice r.A r.ln r.lc, .int .u64 r.u, .string r.s, .slice r.B r.m r.d] 28) = W at *
    refine (own_any W r t htv0 hok (ownW t) rfl).mono ?_
    generalize hq : ownW t = q at how ⊢
    have HQ := Lib.hid hq
    clear hq
    rintro e w1 ⟨rfl, hb1⟩
    have hbx1 := hbx.below hb1
    have htv1 := htv0.bel hb1
    have hb01 := hb0.trans (hb1.mono hb0.size)
    have x0 := hbx1.at.c0
    have x6 := hbx1.at.c6
    by_cases hnode : r.k = 6 ∨ r.k = 8
    · have hw := wt_node (t := t) (by rw [hkk]; exact hnode)
      have hq1 : q = 1 := by rw [← HQ.out]; exact hw.2
      subst hq1
      have HW := Lib.hid hw.1
      clear hw
      have hts1 := htv1.args
      obtain ⟨p, hp⟩ : ∃ p, p = w.heap.size := ⟨_, rfl⟩
      rw [← hp] at hbx1
      have hx0 : w1.cell? ⟨p, 0, none⟩ = some (.int .i64 r.k) := hbx1.at.c0
      have hx6 : w1.cell? ⟨p, 6, none⟩ = some (.slice r.B r.m r.d) := hbx1.at.c6
      clear x0 x6 hbx
      have hwp : Hid (p = w.heap.size) := hp
      rw [← hp]
      clear hp
      have hcase : Hid (R = left - min left (1 + (Tm.wts t.args : Int))) := Lib.hid (by rw [HR.out, HW.out]; congr 2)
      clear HR HW htv htv0 htv1 hts hkk
      rcases hnode with h6 | h6
      all_goals
        rw [h6] at hx0
        by_cases hl1' : left ≤ 1
        all_goals
          go_wp2_with fail
          go_loopw [1, 5] (fun x i w' => ∃ (j : Nat) (z : Int), j ≤ r.m ∧ i = .int .i64 (j : Int) ∧ x = .int .i64 z ∧ 0 ≤ z ∧ z ≤ left ∧ Hid (z = left - min left (1 + (Tm.wts (t.args.take j) : Int))) ∧ Below w1.heap.size w1 w') (fun _ i _ => r.m - (intOf i).toNat)
          case atStart => exact ⟨0, _, Nat.zero_le _, rfl, rfl, by omega, by omega, Lib.hid (by simp only [List.take_zero, Tm.wts]; omega), Below.refl _ _⟩
          case round =>
            obtain ⟨j, z, hj, rfl, rfl, hz0, hz1, hz, hb⟩ := hrel
            have hxx := (hbx1.below hb).at
            have hx6' : wr.cell? ⟨p, 6, none⟩ = some (.slice r.B r.m r.d) := hxx.c6
            by_cases hjm : j < r.m
            · by_cases hzp : 0 < z
              · obtain ⟨b, o, r', t', e, hlt, h7, het, htv'⟩ := (hts1.below hb).get j hjm
                have hmem := List.mem_of_getElem? het
                have st := Lib.hid (Tm.wts_take_succ het)
                have d0 := h7.c0
                have d1 := h7.c1
                have d2 := h7.c2
                have d3 := h7.c3
                have d4 := h7.c4
                have d5 := h7.c5
                have d6 := h7.c6
                rw [e] at hx6'
                clear e
                have hd1 : decide ((j : Int) < (r.m : Int)) = true := by rw [decide_eq_true_iff]; omega
                go_wp2_with fail
                refine (IH.out t' hmem wr r' htv' (Ok.kids hok hmem) z (by omega) (by omega)).mono ?_
                obtain ⟨q', hq'⟩ : ∃ q', q' = z - min z (t'.wt : Int) := ⟨_, rfl⟩
                have hqb : 0 ≤ q' ∧ q' ≤ z := by omega
                have hst := Lib.hid (show q' = left - min left (1 + (Tm.wts (t.args.take (j + 1)) : Int)) by
                  have h1 := st.out
                  have h2 := hz.out
                  omega)
                rw [← hq']
                clear hq'
                rintro e w2 ⟨rfl, hb2⟩
                go_wp2_with fail
                go_roundw
                case rel => exact ⟨j + 1, q', by omega, by go_num, by go_num, by omega, by omega, hst, hb.trans (hb2.mono hb.size)⟩
                case measure => simp [intOf]; omega
              · have hfin := Lib.hid (show R = z by
                  have h1 := hcase.out
                  have h2 := hz.out
                  have h3 := Tm.wts_take_le t.args j
                  omega)
                have hd1 : decide ((j : Int) < (r.m : Int)) = true := by rw [decide_eq_true_iff]; omega
                have hd : decide (0 < z) = false := by rw [decide_eq_false_iff_not]; exact hzp
                go_wp2_with fail
                go_ret
                exact ⟨by rw [hfin.out]; rfl, hb01.trans (hb.mono (by have := hb01.size; omega))⟩
            · have hfin := Lib.hid (show R = z by
                have h1 := hcase.out
                have h2 := hz.out
                rw [wts_all (by rw [hts1.len]; omega)] at h2
                omega)
              have hd1 : decide ((j : Int) < (r.m : Int)) = false := by rw [decide_eq_false_iff_not]; omega
              go_wp2_with fail
              go_ret
              exact ⟨by rw [hfin.out]; rfl, hb01.trans (hb.mono (by have := hb01.size; omega))⟩
    · have e6 : (r.k == 6) = false := by rw [beq_eq_false_iff_ne]; omega
      have e8 : (r.k == 8) = false := by rw [beq_eq_false_iff_ne]; omega
      have n6 : (r.k != 6) = true := by rw [bne_iff_ne]; omega
      have n8 : (r.k != 8) = true := by rw [bne_iff_ne]; omega
      have hw := Lib.hid (wt_leaf (t := t) (by rw [hkk]; omega) (by rw [hkk]; omega))
      have hcase : Hid (R = left - min left (q : Int)) := Lib.hid (by rw [HR.out, hw.out, HQ.out])
      by_cases hlq : left ≤ q
      all_goals
        go_wp2_with fail
        go_ret
        exact ⟨by rw [hcase.out]; simp; omega, hb01⟩
end Go.Proofs.Ytmcfokeibecopaa

namespace Go.Proofs.Ytmcfokeibecopaa
open Go.RowKit

/-- How heavy a term is told to be. -/
def Tm.cap (t : Tm) : Nat := min 301 t.wt
set_option maxRecDepth 100000 in
theorem Tm.cap_le (t : Tm) : 1 ≤ t.cap ∧ t.cap ≤ 301 := by
  have := Tm.wt_pos t
  unfold Tm.cap
  omega
/-- The sum of several. -/
def Tm.caps : List Tm → Nat
  | [] => 0
  | t :: r => t.cap + Tm.caps r
set_option maxRecDepth 100000 in
theorem Tm.caps_append (a b : List Tm) : Tm.caps (a ++ b) = Tm.caps a + Tm.caps b := by
  induction a with
  | nil => simp [Tm.caps]
  | cons t r ih => simp [Tm.caps, ih]; omega
set_option maxRecDepth 100000 in
theorem Tm.caps_take_succ {ts : List Tm} {i : Nat} {t : Tm} (h : ts[i]? = some t) : Tm.caps (ts.take (i + 1)) = Tm.caps (ts.take i) + t.cap := by
  rw [List.take_add_one, h, Tm.caps_append]
  simp [Tm.caps]
set_option maxRecDepth 100000 in
theorem Tm.caps_take_le (ts : List Tm) (i : Nat) : Tm.caps (ts.take i) ≤ Tm.caps ts := by
  have := Tm.caps_append (ts.take i) (ts.drop i)
  rw [List.take_append_drop] at this
  omega
set_option maxRecDepth 100000 in
theorem Tm.caps_le (ts : List Tm) : Tm.caps ts ≤ 301 * ts.length := by
  induction ts with
  | nil => simp [Tm.caps]
  | cons t r ih => have := Tm.cap_le t; simp [Tm.caps]; omega
set_option maxRecDepth 100000 in
theorem Tm.caps_all {ts : List Tm} {j : Nat} (h : ts.length ≤ j) : Tm.caps (ts.take j) = Tm.caps ts := by rw [List.take_of_length_le h]

set_option maxRecDepth 100000 in
set_option maxHeartbeats 1000000 in
theorem weight_any (w : World) (r : TR) (t : Tm) (h : TV w r t) (ho : t.Ok) :
    Calls Try.prog 27 #[.agg #[.int .i64 r.k, .int .i64 r.n, .bool r.g, .slice r.A r.ln r.lc, .int .u64 r.u, .string r.s, .slice r.B r.m r.d]] w fun e w' => e = .returned (.int .i64 (t.cap : Int)) ∧ Below w.heap.size w w' := by
  obtain ⟨R, hR⟩ : ∃ R, R = (t.cap : Int) := ⟨_, rfl⟩
  rw [← hR]
  have HR := Lib.hid hR
  clear hR
  have hb0 := (Below.refl w.heap.size w).alloc (Nat.le_refl _) (.cells #[.int .i64 r.k, .int .i64 r.n, .bool r.g, .slice r.A r.ln r.lc, .int .u64 r.u, .string r.s, .slice r.B r.m r.d] 28)
  have h2 := h.bel hb0
  go_enter Try.func27, Try.ntmps27
  go_wp2_with fail
  refine (room_any t _ r h2 ho 301 (by omega) (by omega)).mono ?_
  obtain ⟨q, hq⟩ : ∃ q, q = (301 : Int) - min 301 (t.wt : Int) := ⟨_, rfl⟩
  have hqb : 0 ≤ q ∧ q ≤ 301 := by omega
  have hfin := Lib.hid (show R = 301 - q by
    have h1 := HR.out
    unfold Tm.cap at h1
    omega)
  rw [← hq]
  clear hq
  rintro e w1 ⟨rfl, hb1⟩
  go_wp2_with fail
  go_ret
  exact ⟨by rw [hfin.out]; go_num, hb0.trans (hb1.mono (by simp))⟩

/-- Are terms together above a weight? -/
def aboveB (most : Int) (ts : List Tm) : Bool := decide (most < (Tm.caps ts : Int))

end Go.Proofs.Ytmcfokeibecopaa

namespace Go.Proofs.Ytmcfokeibecopaa
open Go.RowKit

set_option maxRecDepth 100000 in
theorem cap_big {t : Tm} (h : t.kind = 2) : t.cap = min 301 (1 + t.mag.length) := by
  cases t with
  | mk k n g l u s ks => unfold Tm.cap; rw [Tm.wt, if_pos (show k = 2 from h)]; rfl
set_option maxRecDepth 100000 in
theorem cap_bin {t : Tm} (h : t.kind = 9) : t.cap = min 301 (1 + t.bytes.size / 8) := by
  cases t with
  | mk k n g l u s ks =>
    have h' : k = 9 := h
    unfold Tm.cap; rw [Tm.wt, if_neg (by omega), if_pos h']; rfl
set_option maxRecDepth 100000 in
theorem cap_leaf {t : Tm} (h2 : t.kind ≠ 2) (h9 : t.kind ≠ 9) (h6 : t.kind ≠ 6) (h8 : t.kind ≠ 8) : t.cap = 1 := by
  unfold Tm.cap
  rw [wt_leaf h6 h8]
  unfold ownW
  rw [if_neg h2, if_neg h9]
  rfl
set_option maxRecDepth 100000 in
theorem caps_wts (ts : List Tm) : min 301 (Tm.caps ts) = min 301 (Tm.wts ts) := by
  induction ts with
  | nil => simp [Tm.caps, Tm.wts]
  | cons t r ih => simp only [Tm.caps, Tm.wts, Tm.cap]; omega
set_option maxRecDepth 100000 in
theorem cap_node {t : Tm} (h : t.kind = 6 ∨ t.kind = 8) : t.cap = min 301 (1 + Tm.caps t.args) := by
  have h1 := (wt_node h).1
  have h2 := caps_wts t.args
  unfold Tm.cap
  omega

set_option maxRecDepth 100000 in
set_option maxHeartbeats 4000000 in
theorem refWeight_any (t : Tm) : ∀ (w : World) (r : TR), TV w r t → t.Ok →
    Calls Try.prog 37 #[.agg #[.int .i64 r.k, .int .i64 r.n, .bool r.g, .slice r.A r.ln r.lc, .int .u64 r.u, .string r.s, .slice r.B r.m r.d]] w fun e w' => e = .returned (.int .i64 (t.cap : Int)) ∧ Below w.heap.size w w' := by
  induction t using Tm.ind with
  | h k n g l u s ks ih =>
    intro w r htv hok
    have IH := Lib.hid ih
    clear ih
    obtain ⟨t, ht⟩ : ∃ t, t = Tm.mk k n g l u s ks := ⟨_, rfl⟩
    have hks : t.args = ks := by rw [ht]; rfl
    rw [← hks] at IH
    rw [← ht] at htv hok ⊢
    clear hks ht
    have hl := Ok.limbs htv hok
    have hs := Ok.bytes htv hok
    obtain ⟨R, hR⟩ : ∃ R, R = (t.cap : Int) := ⟨_, rfl⟩
    rw [← hR]
    have HR := Lib.hid hR
    have hkk := htv.kind
    have hts := htv.args
    have hml : r.m ≤ maxLen := Nat.le_trans hts.md hts.dd
    have hml' : (r.m : Int) ≤ 9223372036854775807 := by unfold maxLen at hml; omega
    clear hR
    have hb0 := (Below.refl w.heap.size w).alloc (Nat.le_refl _) (.cells #[.int .i64 r.k, .int .i64 r.n, .bool r.g, .slice r.A r.ln r.lc, .int .u64 r.u, .string r.s, .slice r.B r.m r.d] 28)
    have hbx := Box7.new w r
    have htv0 := htv.bel hb0
    have hsz : w.heap.size < (w.alloc (.cells #[.int .i64 r.k, .int .i64 r.n, .bool r.g, .slice r.A r.ln r.lc, .int .u64 r.u, .string r.s, .slice r.B r.m r.d] 28)).heap.size := by simp
    have MG := Lib.hid htv.magLen
    have BY := Lib.hid htv.bytes
    by_cases h2 : r.k = 2
    · have e2 : (r.k == 2) = true := by rw [h2]; rfl
      have hfin := Lib.hid (show R = min 301 (1 + (r.ln : Int)) by
        have := cap_big (t := t) (by rw [hkk]; exact h2)
        rw [HR.out, this, MG.out]; omega)
      clear h2 hkk
      go_enter Try.func37, Try.ntmps37
      go_wp2
      all_goals
        go_ret
        exact ⟨by rw [hfin.out]; simp; try omega, hb0⟩
    have e2 : (r.k == 2) = false := by rw [beq_eq_false_iff_ne]; exact h2
    by_cases h9 : r.k = 9
    · have e9 : (r.k == 9) = true := by rw [h9]; rfl
      have hfin := Lib.hid (show R = min 301 (1 + (r.s.size / 8 : Nat)) by
        have := cap_bin (t := t) (by rw [hkk]; exact h9)
        rw [HR.out, this, BY.out])
      clear h9 h2 hkk
      go_enter Try.func37, Try.ntmps37
      go_wp2
      all_goals
        go_ret
        exact ⟨by rw [hfin.out]; simp; try omega, hb0⟩
    have e9 : (r.k == 9) = false := by rw [beq_eq_false_iff_ne]; exact h9
    by_cases hnode : r.k = 6 ∨ r.k = 8
    · have hw := Lib.hid (cap_node (t := t) (by rw [hkk]; exact hnode))
      have hcase : Hid (R = min 301 (1 + (Tm.caps t.args : Int))) := Lib.hid (by rw [HR.out, hw.out]; omega)
      clear HR hw htv hts hkk MG BY
      have hts1 := htv0.args
      go_enter Try.func37, Try.ntmps37
      have hn6 : ((r.k == 6) = true ∧ (r.k == 8) = false) ∨ ((r.k == 6) = false ∧ (r.k == 8) = true) := by
        rcases hnode with h6 | h6
        · exact .inl ⟨by rw [h6]; rfl, by rw [h6]; rfl⟩
        · exact .inr ⟨by rw [h6]; rfl, by rw [h6]; rfl⟩
      clear hnode h2 h9
      rcases hn6 with ⟨e6, e8⟩ | ⟨e6, e8⟩
      all_goals
        go_wp2_with fail
        generalize w.alloc (.cells #[.int .i64 r.k, .int .i64 r.n, .bool r.g, .slice r.A r.ln r.lc, .int .u64 r.u, .string r.s, .slice r.B r.m r.d] 28) = W at *
        go_loopw [3, 4] (fun x i w' => ∃ (j z : Nat), j ≤ r.m ∧ i = .int .i64 (j : Int) ∧ x = .int .i64 (z : Int) ∧ z ≤ 601 ∧ Hid (min 301 z = min 301 (1 + Tm.caps (t.args.take j))) ∧ Below W.heap.size W w') (fun _ i _ => r.m - (intOf i).toNat)
        case atStart => exact ⟨0, 1, Nat.zero_le _, rfl, rfl, by omega, Lib.hid (by simp [Tm.caps]), Below.refl _ _⟩
        case round =>
          obtain ⟨j, z, hj, rfl, rfl, hz1, hz, hb⟩ := hrel
          have hxx := (hbx.below hb).at
          have hx6' : wr.cell? ⟨w.heap.size, 6, none⟩ = some (.slice r.B r.m r.d) := hxx.c6
          by_cases hjm : j < r.m
          · have hd1 : decide ((j : Int) < (r.m : Int)) = true := by rw [decide_eq_true_iff]; omega
            by_cases hzp : (z : Int) ≤ 300
            · obtain ⟨b, o, r', t', e, hlt, h7, het, htv'⟩ := (hts1.below hb).get j hjm
              have hmem := List.mem_of_getElem? het
              have st := Lib.hid (Tm.caps_take_succ het)
              have d0 := h7.c0
              have d1 := h7.c1
              have d2 := h7.c2
              have d3 := h7.c3
              have d4 := h7.c4
              have d5 := h7.c5
              have d6 := h7.c6
              rw [e] at hx6'
              clear e
              go_wp2_with fail
              refine (IH.out t' hmem wr r' htv' (Ok.kids hok hmem)).mono ?_
              have hcap := Tm.cap_le t'
              generalize t'.cap = q at hcap st ⊢
              rintro e w2 ⟨rfl, hb2⟩
              go_wp2_with fail
              go_roundw
              case rel => exact ⟨j + 1, z + q, by omega, by go_num, by go_num, by omega, Lib.hid (by have h1 := st.out; have h2 := hz.out; omega), hb.trans (hb2.mono hb.size)⟩
              case measure => simp [intOf]; omega
            · have hfin := Lib.hid (show R = 301 by
                have h1 := hcase.out
                have h2 := hz.out
                have h3 := Tm.caps_take_le t.args j
                omega)
              have hd : decide ((z : Int) ≤ 300) = false := by rw [decide_eq_false_iff_not]; exact hzp
              have hmin : min (z : Int) 301 = 301 := by omega
              go_wp2
              all_goals
                go_ret
                exact ⟨by rw [hfin.out]; simp; try omega, hb0.trans (hb.mono (by have := hb0.size; omega))⟩
          · have hfin := Lib.hid (show R = min (z : Int) 301 by
              have h1 := hcase.out
              have h2 := hz.out
              rw [Tm.caps_all (by rw [hts1.len]; omega)] at h2
              omega)
            have hd1 : decide ((j : Int) < (r.m : Int)) = false := by rw [decide_eq_false_iff_not]; omega
            go_wp2
            all_goals
              go_ret
              exact ⟨by rw [hfin.out]; simp; try omega, hb0.trans (hb.mono (by have := hb0.size; omega))⟩
    · have e6 : (r.k == 6) = false := by rw [beq_eq_false_iff_ne]; omega
      have e8 : (r.k == 8) = false := by rw [beq_eq_false_iff_ne]; omega
      have hfin := Lib.hid (show R = 1 by
        rw [HR.out, cap_leaf (t := t) (by rw [hkk]; omega) (by rw [hkk]; omega) (by rw [hkk]; omega) (by rw [hkk]; omega)]; rfl)
      clear h2 h9 hnode hkk
      go_enter Try.func37, Try.ntmps37
      go_wp2
      all_goals
        go_ret
        exact ⟨by rw [hfin.out]; rfl, hb0⟩

end Go.Proofs.Ytmcfokeibecopaa

namespace Go.Proofs.Ytmcfokeibecopaa
open Go.RowKit

/-- A term's record that is made with no limbs. -/
@[reducible] def mkR (k n u : Int) (s : ByteArray) (B : Option Addr) (m d : Nat) : TR := ⟨k, n, false, none, 0, 0, u, s, B, m, d⟩
set_option maxRecDepth 100000 in
theorem TV.node {w : World} {k n u : Int} {s : ByteArray} {B : Option Addr} {m d : Nat} {ks : List Tm} (h : TVs w B m d ks)
    (k0 : -9223372036854775808 ≤ k) (k1 : k ≤ 9223372036854775807) (n0 : -9223372036854775808 ≤ n) (n1 : n ≤ 9223372036854775807) (u0 : 0 ≤ u) (u1 : u ≤ 18446744073709551615) (hs : s.size ≤ maxLen) :
    TV w (mkR k n u s B m d) (.mk k n false [] u s ks) :=
  TV.make (r := mkR k n u s B m d) ⟨k0, k1, n0, n1, u0, u1, Lim.nil w none 0, Nat.zero_le _, hs, h.md, h.dd⟩ h
set_option maxRecDepth 100000 in
theorem TV.leaf {w : World} {k n u : Int} {s : ByteArray}
    (k0 : -9223372036854775808 ≤ k) (k1 : k ≤ 9223372036854775807) (n0 : -9223372036854775808 ≤ n) (n1 : n ≤ 9223372036854775807) (u0 : 0 ≤ u) (u1 : u ≤ 18446744073709551615) (hs : s.size ≤ maxLen) :
    TV w (mkR k n u s none 0 0) (.mk k n false [] u s []) := TV.node (TVs.nil w none 0 (Nat.zero_le _)) k0 k1 n0 n1 u0 u1 hs
set_option maxRecDepth 100000 in
theorem maxLen_ge : 1000000 ≤ maxLen := by decide

set_option maxRecDepth 100000 in
/-- A row of two terms, newly made. -/
theorem TVs.two {w : World} {r r' : TR} {t t' : Tm} (h : TV w r t) (h' : TV w r' t') :
    TVs (w.alloc (.cells #[.int .i64 r.k, .int .i64 r.n, .bool r.g, .slice r.A r.ln r.lc, .int .u64 r.u, .string r.s, .slice r.B r.m r.d, .int .i64 r'.k, .int .i64 r'.n, .bool r'.g, .slice r'.A r'.ln r'.lc, .int .u64 r'.u, .string r'.s, .slice r'.B r'.m r'.d] 28)) (some ⟨w.heap.size, 0, none⟩) 2 2 [t, t'] := by
  refine ⟨rfl, Nat.le_refl _, by decide, fun i => if i = 0 then r else r', fun _ => ⟨w.heap.size, 0, rfl, by simp, fun i hi => ?_⟩, fun i x e => ?_⟩
  · have : i = 0 ∨ i = 1 := by omega
    rcases this with rfl | rfl
    all_goals
      refine At7.of fun j hj => ?_
      rw [add_none, World.cell?_alloc_at _ _ _ _ rfl]
      have : j = 0 ∨ j = 1 ∨ j = 2 ∨ j = 3 ∨ j = 4 ∨ j = 5 ∨ j = 6 := by omega
      rcases this with rfl | rfl | rfl | rfl | rfl | rfl | rfl <;> rfl
  · have hb := (Below.refl w.heap.size w).alloc (Nat.le_refl _) (.cells #[.int .i64 r.k, .int .i64 r.n, .bool r.g, .slice r.A r.ln r.lc, .int .u64 r.u, .string r.s, .slice r.B r.m r.d, .int .i64 r'.k, .int .i64 r'.n, .bool r'.g, .slice r'.A r'.ln r'.lc, .int .u64 r'.u, .string r'.s, .slice r'.B r'.m r'.d] 28)
    match i, e with
    | 0, e =>
      simp at e
      rw [← e]
      exact h.bel hb
    | 1, e =>
      simp at e
      rw [← e]
      exact h'.bel hb
    | i + 2, e => simp at e

/-- The small integer 0, the empty list, and [0, 0]. -/
def tInt0 : Tm := .mk 1 0 false [] 0 ⟨#[]⟩ []
def tNil : Tm := .mk 7 0 false [] 0 ⟨#[]⟩ []
def tTwo : Tm := .mk 8 0 false [] 0 ⟨#[]⟩ [tInt0, .mk 8 0 false [] 0 ⟨#[]⟩ [tInt0, tNil]]
def tEight : Tm := .mk 9 0 false [] 0 ⟨#[49, 50, 51, 52, 53, 54, 55, 56]⟩ []
set_option maxRecDepth 100000 in
theorem tTwo_cap : tTwo.cap = 5 := by simp [Tm.cap, tTwo, tInt0, tNil, Tm.wt, Tm.wts]
set_option maxRecDepth 100000 in
theorem tTwo_ok : tTwo.Ok := by simp [tTwo, tInt0, tNil, Tm.Ok, Tm.Oks, ByteArray.size]
set_option maxRecDepth 100000 in
theorem tEight_cap : tEight.cap = 2 := by simp [Tm.cap, tEight, Tm.wt, ByteArray.size]
set_option maxRecDepth 100000 in
theorem tEight_ok : tEight.Ok := by simp [tEight, Tm.Ok, Tm.Oks, ByteArray.size]
set_option maxRecDepth 100000 in
theorem above_one (most : Int) (t : Tm) : aboveB most [t] = decide (most < (t.cap : Int)) := by
  simp only [aboveB, Tm.caps, Nat.add_zero]
  rfl

end Go.Proofs.Ytmcfokeibecopaa

namespace Go.Proofs.Ytmcfokeibecopaa
open Go.RowKit

set_option maxRecDepth 100000 in
theorem cell_blk {w w' : World} {b o : Nat} (h : w'.heap[b]? = w.heap[b]?) : w'.cell? ⟨b, o, none⟩ = w.cell? ⟨b, o, none⟩ := World.cell?_of_block (w := w) (a := ⟨b, o, none⟩) h
set_option maxRecDepth 100000 in
theorem At7.keep {w w' : World} {b o : Nat} {r : TR} (h : At7 w b o r) (e : w'.heap[b]? = w.heap[b]?) : At7 w' b o r :=
  ⟨(cell_blk e).trans h.c0, (cell_blk e).trans h.c1, (cell_blk e).trans h.c2, (cell_blk e).trans h.c3, (cell_blk e).trans h.c4, (cell_blk e).trans h.c5, (cell_blk e).trans h.c6⟩

/-- The record's own blocks are some of these. -/
structure OnS (S : Nat → Prop) (r : TR) : Prop where
  lim : 0 < r.ln → ∀ a, r.A = some a → S a.block
  arg : 0 < r.m → ∀ a, r.B = some a → S a.block
/-- The record stands for the term, and lies in these blocks. -/
inductive TVS (S : Nat → Prop) (w : World) : TR → Tm → Prop
  | mk (r : TR) (l : List Nat) (ks : List Tm) (V : Nat → TR) (hf : Flat w r l) (hm : ks.length = r.m) (hs : Spread w r.B r.m V) (on : OnS S r)
    (hk : ∀ i t, ks[i]? = some t → TVS S w (V i) t) : TVS S w r (.mk r.k r.n r.g l r.u r.s ks)
/-- The slice stands for the terms, and lies in these blocks. -/
structure TVSs (S : Nat → Prop) (w : World) (B : Option Addr) (m d : Nat) (ts : List Tm) : Prop where
  len : ts.length = m
  md : m ≤ d
  dd : d ≤ maxLen
  on : 0 < m → ∀ a, B = some a → S a.block
  el : ∃ V : Nat → TR, Spread w B m V ∧ ∀ i t, ts[i]? = some t → TVS S w (V i) t

set_option maxRecDepth 100000 in
theorem TVS.tv {S : Nat → Prop} {w : World} {r : TR} {t : Tm} (h : TVS S w r t) : TV w r t := by
  induction h with
  | mk r l ks V hf hm hs on hk ih => exact .mk r l ks V hf hm hs ih
set_option maxRecDepth 100000 in
theorem TVSs.tvs {S : Nat → Prop} {w : World} {B : Option Addr} {m d : Nat} {ts : List Tm} (h : TVSs S w B m d ts) : TVs w B m d ts := by
  obtain ⟨V, h1, h2⟩ := h.el
  exact ⟨h.len, h.md, h.dd, V, h1, fun i t e => (h2 i t e).tv⟩
set_option maxRecDepth 100000 in
theorem TVS.mono {S S' : Nat → Prop} {w : World} {r : TR} {t : Tm} (h : TVS S w r t) (hS : ∀ b, S b → S' b) : TVS S' w r t := by
  induction h with
  | mk r l ks V hf hm hs on hk ih => exact .mk r l ks V hf hm hs ⟨fun h a e => hS _ (on.lim h a e), fun h a e => hS _ (on.arg h a e)⟩ ih
set_option maxRecDepth 100000 in
theorem TVSs.mono {S S' : Nat → Prop} {w : World} {B : Option Addr} {m d : Nat} {ts : List Tm} (h : TVSs S w B m d ts) (hS : ∀ b, S b → S' b) : TVSs S' w B m d ts := by
  obtain ⟨V, h1, h2⟩ := h.el
  exact ⟨h.len, h.md, h.dd, fun hm a e => hS _ (h.on hm a e), V, h1, fun i t e => (h2 i t e).mono hS⟩
set_option maxRecDepth 100000 in
theorem Lim.blk {w : World} {A : Option Addr} {n c : Nat} {l : List Nat} (h : Lim w A n c l) (hn : 0 < n) (a : Addr) (e : A = some a) : a.block < w.heap.size := by
  obtain ⟨b, o, e', hlt, _⟩ := h.2.2.2 hn
  rw [e'] at e
  cases e
  exact hlt
set_option maxRecDepth 100000 in
theorem Spread.blk {w : World} {B : Option Addr} {m : Nat} {V : Nat → TR} (h : Spread w B m V) (hm : 0 < m) (a : Addr) (e : B = some a) : a.block < w.heap.size := by
  obtain ⟨b, o, e', hlt, _⟩ := h hm
  rw [e'] at e
  cases e
  exact hlt
set_option maxRecDepth 100000 in
/-- A term lies in the blocks that are there. -/
theorem TV.tvS {w : World} {r : TR} {t : Tm} (h : TV w r t) : TVS (· < w.heap.size) w r t := by
  induction h with
  | mk r l ks V hf hm hs hk ih => exact .mk r l ks V hf hm hs ⟨fun h a e => hf.lim.blk h a e, fun h a e => hs.blk h a e⟩ ih
set_option maxRecDepth 100000 in
theorem TVs.tvS {w : World} {B : Option Addr} {m d : Nat} {ts : List Tm} (h : TVs w B m d ts) : TVSs (· < w.heap.size) w B m d ts := by
  obtain ⟨V, h1, h2⟩ := h.el
  exact ⟨h.len, h.md, h.dd, fun hm a e => h1.blk hm a e, V, h1, fun i t e => (h2 i t e).tvS⟩

/-- The blocks of S are as they were, and none is gone. -/
structure Keeps (S : Nat → Prop) (w w' : World) : Prop where
  size : w.heap.size ≤ w'.heap.size
  block : ∀ b, S b → b < w.heap.size → w'.heap[b]? = w.heap[b]?
set_option maxRecDepth 100000 in
theorem Keeps.refl (S : Nat → Prop) (w : World) : Keeps S w w := ⟨Nat.le_refl _, fun _ _ _ => rfl⟩
set_option maxRecDepth 100000 in
theorem Keeps.trans {S : Nat → Prop} {a b c : World} (h : Keeps S a b) (k : Keeps S b c) : Keeps S a c :=
  ⟨Nat.le_trans h.size k.size, fun i hi hl => (k.block i hi (Nat.lt_of_lt_of_le hl h.size)).trans (h.block i hi hl)⟩
set_option maxRecDepth 100000 in
theorem Keeps.mono {S S' : Nat → Prop} {a b : World} (h : Keeps S a b) (hS : ∀ b, S' b → S b) : Keeps S' a b := ⟨h.size, fun i hi hl => h.block i (hS i hi) hl⟩
set_option maxRecDepth 100000 in
theorem Keeps.alloc {S : Nat → Prop} {a w : World} (h : Keeps S a w) (o : Obj) : Keeps S a (w.alloc o) :=
  h.trans ⟨by simp, fun b _ hl => Below.heap_alloc w o b hl⟩
set_option maxRecDepth 100000 in
theorem Keeps.setCell {S : Nat → Prop} {a w : World} (h : Keeps S a w) {p : Addr} (hp : ¬ S p.block) (u : Value) : Keeps S a (w.setCell p u) :=
  h.trans ⟨by simp [World.setCell], fun b hb _ => Below.heap_setCell w p u b (fun e => hp (e ▸ hb))⟩
set_option maxRecDepth 100000 in
theorem Keeps.drew {S : Nat → Prop} {a w : World} (h : Keeps S a w) : Keeps S a w.drew := ⟨h.size, h.block⟩
set_option maxRecDepth 100000 in
theorem _root_.Go.RowKit.Below.keeps {w w' : World} (h : Below w.heap.size w w') (S : Nat → Prop) : Keeps S w w' := ⟨h.size, fun b _ hl => h.block b hl⟩

set_option maxRecDepth 100000 in
theorem Lim.keep {S : Nat → Prop} {w w' : World} {A : Option Addr} {n c : Nat} {l : List Nat} (h : Lim w A n c l) (hS : 0 < n → ∀ a, A = some a → S a.block) (k : Keeps S w w') : Lim w' A n c l := by
  refine ⟨h.1, h.2.1, h.2.2.1, fun hn => ?_⟩
  obtain ⟨b, o, e, hlt, hc⟩ := h.2.2.2 hn
  exact ⟨b, o, e, Nat.lt_of_lt_of_le hlt k.size, fun j hj => (cell_blk (k.block b (hS hn _ e) hlt)).trans (hc j hj)⟩
set_option maxRecDepth 100000 in
theorem Spread.keep {S : Nat → Prop} {w w' : World} {B : Option Addr} {m : Nat} {V : Nat → TR} (h : Spread w B m V) (hS : 0 < m → ∀ a, B = some a → S a.block) (k : Keeps S w w') : Spread w' B m V := fun hm => by
  obtain ⟨b, o, e, hlt, hc⟩ := h hm
  exact ⟨b, o, e, Nat.lt_of_lt_of_le hlt k.size, fun i hi => (hc i hi).keep (k.block b (hS hm _ e) hlt)⟩
set_option maxRecDepth 100000 in
theorem TVS.keep {S : Nat → Prop} {w w' : World} {r : TR} {t : Tm} (h : TVS S w r t) (k : Keeps S w w') : TVS S w' r t := by
  induction h with
  | mk r l ks V hf hm hs on hk ih => exact .mk r l ks V ⟨hf.k0, hf.k1, hf.n0, hf.n1, hf.u0, hf.u1, hf.lim.keep on.lim k, hf.cap, hf.str, hf.md, hf.dd⟩ hm (hs.keep on.arg k) on ih
set_option maxRecDepth 100000 in
theorem TVSs.keep {S : Nat → Prop} {w w' : World} {B : Option Addr} {m d : Nat} {ts : List Tm} (h : TVSs S w B m d ts) (k : Keeps S w w') : TVSs S w' B m d ts := by
  obtain ⟨V, h1, h2⟩ := h.el
  exact ⟨h.len, h.md, h.dd, h.on, V, h1.keep h.on k, fun i t e => (h2 i t e).keep k⟩
set_option maxRecDepth 100000 in
theorem TVSs.nil (S : Nat → Prop) (w : World) (B : Option Addr) (d : Nat) (hd : d ≤ maxLen) : TVSs S w B 0 d [] :=
  ⟨rfl, Nat.zero_le _, hd, fun h => absurd h (by omega), fun _ => default, fun h => absurd h (by omega), fun i t e => by simp at e⟩
set_option maxRecDepth 100000 in
theorem TVS.node {S : Nat → Prop} {w : World} {k n u : Int} {s : ByteArray} {B : Option Addr} {m d : Nat} {ks : List Tm} (h : TVSs S w B m d ks)
    (k0 : -9223372036854775808 ≤ k) (k1 : k ≤ 9223372036854775807) (n0 : -9223372036854775808 ≤ n) (n1 : n ≤ 9223372036854775807) (u0 : 0 ≤ u) (u1 : u ≤ 18446744073709551615) (hs : s.size ≤ maxLen) :
    TVS S w (mkR k n u s B m d) (.mk k n false [] u s ks) := by
  obtain ⟨V, h1, h2⟩ := h.el
  exact .mk (mkR k n u s B m d) [] ks V ⟨k0, k1, n0, n1, u0, u1, Lim.nil w none 0, Nat.zero_le _, hs, h.md, h.dd⟩ h.len h1 ⟨fun h => absurd h (by simp), fun hm a e => h.on hm a e⟩ h2
set_option maxRecDepth 100000 in
/-- A row of two terms, newly made. -/
theorem TVSs.two {S : Nat → Prop} {w : World} {r r' : TR} {t t' : Tm} (h : TVS S w r t) (h' : TVS S w r' t') (hn : S w.heap.size) :
    TVSs S (w.alloc (.cells #[.int .i64 r.k, .int .i64 r.n, .bool r.g, .slice r.A r.ln r.lc, .int .u64 r.u, .string r.s, .slice r.B r.m r.d, .int .i64 r'.k, .int .i64 r'.n, .bool r'.g, .slice r'.A r'.ln r'.lc, .int .u64 r'.u, .string r'.s, .slice r'.B r'.m r'.d] 28)) (some ⟨w.heap.size, 0, none⟩) 2 2 [t, t'] := by
  have H := (TVs.two h.tv h'.tv)
  refine ⟨rfl, Nat.le_refl _, by decide, fun _ a e => by cases e; exact hn, fun i => if i = 0 then r else r', fun _ => ⟨w.heap.size, 0, rfl, by simp, fun i hi => ?_⟩, fun i x e => ?_⟩
  · have : i = 0 ∨ i = 1 := by omega
    rcases this with rfl | rfl
    all_goals
      refine At7.of fun j hj => ?_
      rw [add_none, World.cell?_alloc_at _ _ _ _ rfl]
      have : j = 0 ∨ j = 1 ∨ j = 2 ∨ j = 3 ∨ j = 4 ∨ j = 5 ∨ j = 6 := by omega
      rcases this with rfl | rfl | rfl | rfl | rfl | rfl | rfl <;> rfl
  · have k := (Keeps.refl S w).alloc (.cells #[.int .i64 r.k, .int .i64 r.n, .bool r.g, .slice r.A r.ln r.lc, .int .u64 r.u, .string r.s, .slice r.B r.m r.d, .int .i64 r'.k, .int .i64 r'.n, .bool r'.g, .slice r'.A r'.ln r'.lc, .int .u64 r'.u, .string r'.s, .slice r'.B r'.m r'.d] 28)
    match i, e with
    | 0, e =>
      simp at e
      rw [← e]
      exact h.keep k
    | 1, e =>
      simp at e
      rw [← e]
      exact h'.keep k
    | i + 2, e => simp at e

/-- A record is written over block g. -/
@[reducible] def put7 (w : World) (g : Nat) (r : TR) : World :=
  ((((((w.setCell ⟨g, 0, none⟩ (.int .i64 r.k)).setCell ⟨g, 1, none⟩ (.int .i64 r.n)).setCell ⟨g, 2, none⟩ (.bool r.g)).setCell ⟨g, 3, none⟩ (.slice r.A r.ln r.lc)).setCell ⟨g, 4, none⟩ (.int .u64 r.u)).setCell ⟨g, 5, none⟩ (.string r.s)).setCell ⟨g, 6, none⟩ (.slice r.B r.m r.d)
set_option maxRecDepth 100000 in
theorem put7_size (w : World) (g : Nat) (r : TR) : (put7 w g r).heap.size = w.heap.size := by simp [put7, World.setCell]
set_option maxRecDepth 100000 in
theorem Box7.put {w : World} {g : Nat} {r : TR} (h : Box7 w g r) (r' : TR) : Box7 (put7 w g r') g r' := by
  unfold Box7 at h ⊢
  simp [World.setCell, Array.getElem?_modify, h]
set_option maxRecDepth 100000 in
theorem Box7.frozen {w : World} {g : Nat} {r : TR} (h : Box7 w g r) (i : Nat) : w.frozen? ⟨g, i, none⟩ = false := by unfold Box7 at h; simp [World.frozen?, h]
set_option maxRecDepth 100000 in
theorem Keeps.put7 {S : Nat → Prop} {a w : World} (h : Keeps S a w) {g : Nat} (hp : ¬ S g) (r : TR) : Keeps S a (put7 w g r) :=
  ((((((h.setCell (p := ⟨g, 0, none⟩) hp _).setCell (p := ⟨g, 1, none⟩) hp _).setCell (p := ⟨g, 2, none⟩) hp _).setCell (p := ⟨g, 3, none⟩) hp _).setCell (p := ⟨g, 4, none⟩) hp _).setCell (p := ⟨g, 5, none⟩) hp _).setCell (p := ⟨g, 6, none⟩) hp _
set_option maxRecDepth 100000 in
theorem _root_.Go.RowKit.Below.put7 {B : Nat} {a w : World} (h : Below B a w) {g : Nat} (hp : B ≤ g) (r : TR) : Below B a (put7 w g r) :=
  ((((((h.setCell (p := ⟨g, 0, none⟩) hp _).setCell (p := ⟨g, 1, none⟩) hp _).setCell (p := ⟨g, 2, none⟩) hp _).setCell (p := ⟨g, 3, none⟩) hp _).setCell (p := ⟨g, 4, none⟩) hp _).setCell (p := ⟨g, 5, none⟩) hp _).setCell (p := ⟨g, 6, none⟩) hp _
end Go.Proofs.Ytmcfokeibecopaa
