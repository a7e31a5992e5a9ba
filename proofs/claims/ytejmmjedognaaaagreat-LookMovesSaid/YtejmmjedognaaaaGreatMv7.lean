/-
  LIMBS IN MEMORY: what a slice of limbs holds, and what keeps it.
  TERMS IN MEMORY: what a record of seven cells stands for, what keeps it, how one that came in is opened.
  PACKAGE weigh, AND WHAT THE LAWS HOLD TERMS AGAINST: parts, ownWeight.
  PACKAGE weigh: room, Weight, Above; the reference's Weight, Above.
-/
import Derived.Test.YtejmmjedognaaaaGreatMv6
import Derived.Test.YtejmmjedognaaaaGreatProg
import Derived.WalkKit
import Derived.WalkSpells
import Derived.Lib.Hide
import Derived.Below
import Derived.BigQuiet
import Derived.Deep.QuietTactic
import Derived.Deep.Draws
import Derived.Test.YtejmmjedognaaaaGreatMv5
import Derived.OpenShut
import Derived.ProofKit
import Derived.Lib.SmallJoins
import Derived.Deep.DeepCutAuto
namespace Go.Proofs.YtejmmjedognaaaaGreat
open Go.RowKit

/-- The slice 'A, n, c' holds the limbs l. -/
def Lim (w : World) (A : Option Addr) (n c : Nat) (l : List Nat) : Prop :=
  l.length = n ∧ n ≤ c ∧ Lm.Small l ∧ (0 < n → ∃ b o, A = some ⟨b, o, none⟩ ∧ b < w.heap.size ∧ ∀ j, j < n → w.cell? ⟨b, o + j, none⟩ = some (.int .u32 (Lm.lg l j : Nat)))

set_option maxRecDepth 100000 in
theorem Lim.below {w w' : World} {A : Option Addr} {n c : Nat} {l : List Nat} (h : Lim w A n c l) (hb : Below w.heap.size w w') : Lim w' A n c l := by
  refine ⟨h.1, h.2.1, h.2.2.1, fun hn => ?_⟩
  obtain ⟨b, o, e, hlt, hc⟩ := h.2.2.2 hn
  exact ⟨b, o, e, Nat.lt_of_lt_of_le hlt hb.size, fun j hj => (hb.cell (p := ⟨b, o + j, none⟩) hlt).trans (hc j hj)⟩
set_option maxRecDepth 100000 in
theorem Lim.alloc {w : World} {A : Option Addr} {n c : Nat} {l : List Nat} (h : Lim w A n c l) (o : Obj) : Lim (w.alloc o) A n c l :=
  h.below ((Below.refl _ _).alloc (Nat.le_refl _) o)
set_option maxRecDepth 100000 in
theorem Lim.nil (w : World) (A : Option Addr) (c : Nat) : Lim w A 0 c [] := ⟨rfl, Nat.zero_le _, Lm.small_nil, fun h => absurd h (by omega)⟩
set_option maxRecDepth 100000 in
theorem Lim.take {w : World} {A : Option Addr} {n c : Nat} {l : List Nat} (h : Lim w A n c l) (k : Nat) (hk : k ≤ n) : Lim w A k c (l.take k) := by
  refine ⟨by rw [List.length_take, h.1]; omega, Nat.le_trans hk h.2.1, Lm.small_take h.2.2.1 k, fun hn => ?_⟩
  obtain ⟨b, o, e, hlt, hc⟩ := h.2.2.2 (by omega)
  refine ⟨b, o, e, hlt, fun j hj => ?_⟩
  rw [hc j (by omega), Lm.lg_take hj]

set_option maxRecDepth 100000 in
theorem Lim.drewN {w : World} {A : Option Addr} {n c : Nat} {l : List Nat} (h : Lim w A n c l) (q : Nat) : Lim (w.drewN q) A n c l := h
set_option maxRecDepth 100000 in
theorem _root_.Go.RowKit.Below.drewN' {B : Nat} {a w : World} (h : Below B a w) (n : Nat) : Below B a (w.drewN n) := ⟨h.os, h.tape, h.output, h.size, h.block⟩

set_option maxRecDepth 100000 in
theorem und_limbs : Tryz.prog.underlying 35 = some (.slice 128) := by kernel_rfl
set_option maxRecDepth 100000 in
theorem info_limb : (Tryz.prog.info? 128).map (fun i => (i.zero, i.size, i.bytes)) = some (some (.int .u32 0), 1, 4) := by kernel_rfl
set_option maxRecDepth 100000 in
theorem info_limb' : ∃ i, Tryz.prog.info? 128 = some i ∧ i.zero = some (.int .u32 0) ∧ i.size = 1 ∧ i.bytes = 4 := by
  have h := info_limb
  cases hi : Tryz.prog.info? 128 with
  | none => rw [hi] at h; simp at h
  | some i => rw [hi] at h; simp at h; exact ⟨i, rfl, h.1, h.2.1, h.2.2⟩

/-- Limbs as cells. -/
def arr (t : List Nat) : Array Value := (t.map fun x : Nat => Value.int .u32 (x : Int)).toArray
set_option maxRecDepth 100000 in
theorem arr_size (t : List Nat) : (arr t).size = t.length := by simp [arr]
set_option maxRecDepth 100000 in
theorem arr_get {t : List Nat} {i : Nat} (h : i < t.length) : (arr t)[i]? = some (.int .u32 (Lm.lg t i : Nat)) := by
  simp [arr, Lm.lg, h]
set_option maxRecDepth 100000 in
theorem arr_set (t : List Nat) (i x : Nat) : (arr t).setIfInBounds i (.int .u32 (x : Int)) = arr (t.set i x) := by
  simp [arr, List.map_set]
set_option maxRecDepth 100000 in
theorem arr_made (n : Nat) : madeCells (Value.int .u32 0).cells (n * 1) = arr (List.replicate n 0) := by
  apply Array.ext
  · simp [size_madeCells, arr]
  · intro i h1 h2
    simp [madeCells, arr, Value.cells, Nat.mod_one]

set_option maxRecDepth 100000 in
theorem make_limbs (n : Nat) (hn : n ≤ 100000) (w : World) :
    (Instr.makeSlice 35 (.int .i64 (n : Int)) (.int .i64 (n : Int))).run Tryz.prog w = .ok (.slice (some ⟨w.heap.size, 0, none⟩) n n) (w.alloc (.cells (arr (List.replicate n 0)) 128)) := by
  obtain ⟨i, hi, hz, hs, hb⟩ := info_limb'
  have h := run_make (P := Tryz.prog) w 35 128 i (.int .u32 0) und_limbs hi hz .i64 .i64 n n (by omega) (by omega) (by rw [hb]; omega) (by omega)
  rw [hs] at h
  simp only [Int.toNat_natCast] at h
  rw [h, arr_made]

set_option maxRecDepth 100000 in
/-- A new row of limbs. -/
theorem Lim.new (w : World) (t : List Nat) (hs : Lm.Small t) : Lim (w.alloc (.cells (arr t) 128)) (some ⟨w.heap.size, 0, none⟩) t.length t.length t := by
  refine ⟨rfl, Nat.le_refl _, hs, fun _ => ⟨w.heap.size, 0, rfl, by simp, fun j hj => ?_⟩⟩
  rw [World.cell?_alloc_at _ _ _ _ rfl, Nat.zero_add, arr_get hj]

end Go.Proofs.YtejmmjedognaaaaGreat

namespace Go.Proofs.YtejmmjedognaaaaGreat
open Go.RowKit Go.ChangeShapes Go.WideShapes

/-- A term's own cells. -/
structure TR where
  k : Int
  n : Int
  g : Bool
  A : Option Addr
  ln : Nat
  lc : Nat
  u : Int
  s : ByteArray
  B : Option Addr
  m : Nat
  d : Nat
instance : Inhabited TR := ⟨0, 0, false, none, 0, 0, 0, ⟨#[]⟩, none, 0, 0⟩

/-- The element at 'b, o' is the record. -/
structure At7 (w : World) (b o : Nat) (r : TR) : Prop where
  c0 : w.cell? ⟨b, o, none⟩ = some (.int .i64 r.k)
  c1 : w.cell? ⟨b, o + 1, none⟩ = some (.int .i64 r.n)
  c2 : w.cell? ⟨b, o + 2, none⟩ = some (.bool r.g)
  c3 : w.cell? ⟨b, o + 3, none⟩ = some (.slice r.A r.ln r.lc)
  c4 : w.cell? ⟨b, o + 4, none⟩ = some (.int .u64 r.u)
  c5 : w.cell? ⟨b, o + 5, none⟩ = some (.string r.s)
  c6 : w.cell? ⟨b, o + 6, none⟩ = some (.slice r.B r.m r.d)
set_option maxRecDepth 100000 in
theorem At7.below {w w' : World} {b o : Nat} {r : TR} (h : At7 w b o r) (hb : Below w.heap.size w w') (hlt : b < w.heap.size) : At7 w' b o r :=
  ⟨(hb.cell (p := ⟨b, o, none⟩) hlt).trans h.c0, (hb.cell (p := ⟨b, o + 1, none⟩) hlt).trans h.c1, (hb.cell (p := ⟨b, o + 2, none⟩) hlt).trans h.c2, (hb.cell (p := ⟨b, o + 3, none⟩) hlt).trans h.c3,
    (hb.cell (p := ⟨b, o + 4, none⟩) hlt).trans h.c4, (hb.cell (p := ⟨b, o + 5, none⟩) hlt).trans h.c5, (hb.cell (p := ⟨b, o + 6, none⟩) hlt).trans h.c6⟩
set_option maxRecDepth 100000 in
theorem At7.lt {w : World} {b o : Nat} {r : TR} (h : At7 w b o r) : b < w.heap.size := World.block_lt_of_cell? w _ h.c0

/-- The record's plain fields are such as may stand there; its limbs are l. -/
structure Flat (w : World) (r : TR) (l : List Nat) : Prop where
  k0 : -9223372036854775808 ≤ r.k
  k1 : r.k ≤ 9223372036854775807
  n0 : -9223372036854775808 ≤ r.n
  n1 : r.n ≤ 9223372036854775807
  u0 : 0 ≤ r.u
  u1 : r.u ≤ 18446744073709551615
  lim : Lim w r.A r.ln r.lc l
  cap : r.lc ≤ maxLen
  str : r.s.size ≤ maxLen
  md : r.m ≤ r.d
  dd : r.d ≤ maxLen
set_option maxRecDepth 100000 in
theorem Flat.below {w w' : World} {r : TR} {l : List Nat} (h : Flat w r l) (hb : Below w.heap.size w w') : Flat w' r l :=
  ⟨h.k0, h.k1, h.n0, h.n1, h.u0, h.u1, h.lim.below hb, h.cap, h.str, h.md, h.dd⟩

/-- The slice 'B' has the records V, so many. -/
def Spread (w : World) (B : Option Addr) (m : Nat) (V : Nat → TR) : Prop :=
  0 < m → ∃ b o, B = some ⟨b, o, none⟩ ∧ b < w.heap.size ∧ ∀ i, i < m → At7 w b (o + i * 7) (V i)
set_option maxRecDepth 100000 in
theorem Spread.below {w w' : World} {B : Option Addr} {m : Nat} {V : Nat → TR} (h : Spread w B m V) (hb : Below w.heap.size w w') : Spread w' B m V := fun hm => by
  obtain ⟨b, o, e, hlt, hc⟩ := h hm
  exact ⟨b, o, e, Nat.lt_of_lt_of_le hlt hb.size, fun i hi => (hc i hi).below hb hlt⟩

/-- The record stands for the term. -/
inductive TV (w : World) : TR → Tm → Prop
  | mk (r : TR) (l : List Nat) (ks : List Tm) (V : Nat → TR) (hf : Flat w r l) (hm : ks.length = r.m) (hs : Spread w r.B r.m V)
    (hk : ∀ i t, ks[i]? = some t → TV w (V i) t) : TV w r (.mk r.k r.n r.g l r.u r.s ks)

set_option maxRecDepth 100000 in
theorem TV.bel {w w' : World} {r : TR} {t : Tm} (h : TV w r t) (hb : Below w.heap.size w w') : TV w' r t := by
  induction h with
  | mk r l ks V hf hm hs hk ih => exact .mk r l ks V (hf.below hb) hm (hs.below hb) ih

/-- The slice stands for the terms. -/
structure TVs (w : World) (B : Option Addr) (m d : Nat) (ts : List Tm) : Prop where
  len : ts.length = m
  md : m ≤ d
  dd : d ≤ maxLen
  el : ∃ V : Nat → TR, Spread w B m V ∧ ∀ i t, ts[i]? = some t → TV w (V i) t
set_option maxRecDepth 100000 in
theorem TVs.below {w w' : World} {B : Option Addr} {m d : Nat} {ts : List Tm} (h : TVs w B m d ts) (hb : Below w.heap.size w w') : TVs w' B m d ts := by
  obtain ⟨V, h1, h2⟩ := h.el
  exact ⟨h.len, h.md, h.dd, V, h1.below hb, fun i t e => (h2 i t e).bel hb⟩
set_option maxRecDepth 100000 in
theorem TVs.nil (w : World) (B : Option Addr) (d : Nat) (hd : d ≤ maxLen) : TVs w B 0 d [] :=
  ⟨rfl, Nat.zero_le _, hd, fun _ => default, fun h => absurd h (by omega), fun i t e => by simp at e⟩
set_option maxRecDepth 100000 in
/-- One of them. -/
theorem TVs.get {w : World} {B : Option Addr} {m d : Nat} {ts : List Tm} (h : TVs w B m d ts) (i : Nat) (hi : i < m) :
    ∃ b o r t, B = some ⟨b, o, none⟩ ∧ b < w.heap.size ∧ At7 w b (o + i * 7) r ∧ ts[i]? = some t ∧ TV w r t := by
  obtain ⟨V, h1, h2⟩ := h.el
  obtain ⟨b, o, e, hlt, hc⟩ := h1 (by omega)
  have hg : ts[i]? = some (ts[i]'(by rw [h.len]; exact hi)) := List.getElem?_eq_getElem (by rw [h.len]; exact hi)
  exact ⟨b, o, V i, _, e, hlt, hc i hi, hg, h2 i _ hg⟩

section
variable {w : World} {r : TR} {t : Tm}
set_option maxRecDepth 100000 in
theorem TV.flat (h : TV w r t) : Flat w r t.mag := by cases h; assumption
set_option maxRecDepth 100000 in
theorem TV.kind (h : TV w r t) : t.kind = r.k := by cases h; rfl
set_option maxRecDepth 100000 in
theorem TV.num (h : TV w r t) : t.num = r.n := by cases h; rfl
set_option maxRecDepth 100000 in
theorem TV.neg (h : TV w r t) : t.neg = r.g := by cases h; rfl
set_option maxRecDepth 100000 in
theorem TV.bits (h : TV w r t) : t.bits = r.u := by cases h; rfl
set_option maxRecDepth 100000 in
theorem TV.bytes (h : TV w r t) : t.bytes = r.s := by cases h; rfl
set_option maxRecDepth 100000 in
theorem TV.magLen (h : TV w r t) : t.mag.length = r.ln := h.flat.lim.1
set_option maxRecDepth 100000 in
theorem TV.args (h : TV w r t) : TVs w r.B r.m r.d t.args := by
  cases h with
  | mk _ l ks V hf hm hs hk => exact ⟨hm, hf.md, hf.dd, V, hs, hk⟩
set_option maxRecDepth 100000 in
theorem TV.len (h : TV w r t) : t.args.length = r.m := h.args.len
end
set_option maxRecDepth 100000 in
theorem TV.make {w : World} {r : TR} {l : List Nat} {ks : List Tm} (hf : Flat w r l) (hs : TVs w r.B r.m r.d ks) : TV w r (.mk r.k r.n r.g l r.u r.s ks) := by
  obtain ⟨V, h1, h2⟩ := hs.el
  exact .mk r l ks V hf hs.len h1 h2

/-! ### A term that came in -/
set_option maxRecDepth 100000 in
theorem cells_term : Tryz.prog.cellsOf 40 = 7 := by kernel_rfl
set_option maxRecDepth 100000 in
theorem cells_num' : Tryz.prog.cellsOf 37 = 2 := by kernel_rfl
set_option maxRecDepth 100000 in
theorem cells_int' : Tryz.prog.cellsOf 3 = 1 := by kernel_rfl
set_option maxRecDepth 100000 in
theorem cells_bool' : Tryz.prog.cellsOf 4 = 1 := by kernel_rfl
set_option maxRecDepth 100000 in
theorem cells_limbs' : Tryz.prog.cellsOf 35 = 1 := by kernel_rfl
set_option maxRecDepth 100000 in
theorem cells_u64' : Tryz.prog.cellsOf 30 = 1 := by kernel_rfl
set_option maxRecDepth 100000 in
theorem cells_string' : Tryz.prog.cellsOf 9 = 1 := by kernel_rfl
set_option maxRecDepth 100000 in
theorem cells_terms' : Tryz.prog.cellsOf 38 = 1 := by kernel_rfl

set_option maxRecDepth 100000 in
theorem add_none (b o j : Nat) : (⟨b, o, none⟩ : Addr).add j = ⟨b, o + j, none⟩ := by unfold Addr.add; split <;> simp_all

set_option maxRecDepth 100000 in
/-- Limbs that came in. -/
theorem open_lim {H : Type} {enc : TypeId × Value → H} {W : World} {fuel : Nat} {cs : List Value} {x : DataW H × List MemPlace}
    (h : DataW.trod enc Tryz.prog W 0 (fun _ => true) true fuel 35 cs = some x) :
    ∃ (A : Option Addr) (n c : Nat) (l : List Nat), cs = [.slice A n c] ∧ Lim W A n c l ∧ c ≤ maxLen := by
  rcases open_ints Tryz.underlying35 Tryz.underlying128 (by kernel_rfl) h with ⟨e1, _⟩ | ⟨a, len, cap, zs, e1, _, hl, hm, hz, _, hcell, hwz⟩
  · exact ⟨none, 0, 0, [], e1, Lim.nil W none 0, Nat.zero_le _⟩
  · simp only [if_true] at hz
    have hb : ∀ j, j < zs.length → 0 ≤ zs.getD j 0 ∧ zs.getD j 0 ≤ 4294967295 := fun j hj => by
      have hmem : zs.getD j 0 ∈ zs := by
        rw [List.getD_eq_getElem?_getD, List.getElem?_eq_getElem hj, Option.getD_some]
        exact List.getElem_mem hj
      have := hwz _ hmem
      generalize zs.getD j 0 = y at this ⊢
      simp [Lit.wf, IntKind.min, IntKind.max, IntKind.signed, IntKind.bits] at this
      omega
    have hlg : ∀ j, j < len → Lm.lg ((zs.take len).map Int.toNat) j = (zs.getD j 0).toNat := fun j hj => by
      simp only [Lm.lg, List.getD_eq_getElem?_getD, List.getElem?_map, List.getElem?_take_of_lt hj]
      rw [List.getElem?_eq_getElem (by omega)]
      rfl
    refine ⟨some a, len, cap, (zs.take len).map Int.toNat, e1, ⟨?_, hl, ?_, fun hn => ?_⟩, hm⟩
    · rw [List.length_map, List.length_take]; omega
    · intro x hx
      rw [List.mem_map] at hx
      obtain ⟨y, hy, rfl⟩ := hx
      have := hwz y (List.mem_of_mem_take hy)
      simp [Lit.wf, IntKind.min, IntKind.max, IntKind.signed, IntKind.bits] at this
      omega
    · have h0 := hcell 0 (by omega)
      have hspot : a.spot = none := by
        have := World.cell?_spot h0
        simpa [Addr.add] using this
      obtain ⟨b, o, sp⟩ := a
      simp only at hspot
      subst hspot
      refine ⟨b, o, rfl, ?_, fun j hj => ?_⟩
      · have := World.block_lt_of_cell? W _ h0
        rw [add_none] at this
        exact this
      · rw [hlg j hj, ← add_none b o j, hcell j (by omega)]
        have := hb j (by omega)
        congr 2
        omega

set_option maxRecDepth 100000 in
theorem list7 {α : Type} {cs : List α} (h : cs.length = 7) : ∃ c0 c1 c2 c3 c4 c5 c6, cs = [c0, c1, c2, c3, c4, c5, c6] := by
  match cs, h with
  | [c0, c1, c2, c3, c4, c5, c6], _ => exact ⟨c0, c1, c2, c3, c4, c5, c6, rfl⟩

/-- A record's cells. -/
def TR.cells (r : TR) : List Value := [.int .i64 r.k, .int .i64 r.n, .bool r.g, .slice r.A r.ln r.lc, .int .u64 r.u, .string r.s, .slice r.B r.m r.d]

set_option maxRecDepth 100000 in
theorem At7.of {w : World} {b o : Nat} {r : TR} (h : ∀ i, i < 7 → w.cell? (Addr.add ⟨b, o, none⟩ i) = r.cells[i]?) : At7 w b o r := by
  simp only [add_none] at h
  exact ⟨h 0 (by omega), h 1 (by omega), h 2 (by omega), h 3 (by omega), h 4 (by omega), h 5 (by omega), h 6 (by omega)⟩

set_option maxRecDepth 100000 in
theorem wf_i64 {z : Int} (h : (Lit.int .i64 z).wf = true) : -9223372036854775808 ≤ z ∧ z ≤ 9223372036854775807 := by
  simp [Lit.wf, IntKind.min, IntKind.max, IntKind.signed, IntKind.bits] at h
  omega
set_option maxRecDepth 100000 in
theorem wf_u64 {z : Int} (h : (Lit.int .u64 z).wf = true) : 0 ≤ z ∧ z ≤ 18446744073709551615 := by
  simp [Lit.wf, IntKind.min, IntKind.max, IntKind.signed, IntKind.bits] at h
  omega

set_option maxRecDepth 100000 in
/-- A slice of terms that came in, its elements opened with less fuel. -/
theorem open_spread {H : Type} {enc : TypeId × Value → H} {W : World} {fuel : Nat} {cs : List Value} {x : DataW H × List MemPlace}
    (h : DataW.trod enc Tryz.prog W 0 (fun _ => true) true fuel 38 cs = some x)
    (ih : ∀ f, f < fuel → ∀ cs x, DataW.trod enc Tryz.prog W 0 (fun _ => true) true f 40 cs = some x → ∃ r t, cs = TR.cells r ∧ TV W r t) :
    ∃ (B : Option Addr) (m d : Nat) (ts : List Tm), cs = [.slice B m d] ∧ TVs W B m d ts := by
  rcases DataW.trod_slice Tryz.underlying38 h with ⟨h0, _⟩ | ⟨a, len, cap, elems, rest, n, hfu, hcs, _, hb, hl, hm, hlen, hel, _, _⟩
  · exact ⟨none, 0, 0, [], h0, TVs.nil W none 0 (Nat.zero_le _)⟩
  · rw [cells_term] at hel
    have each : ∀ i, i < len → ∃ y : TR × Tm, (∀ j, j < 7 → W.cell? ((a.add (i * 7)).add j) = (TR.cells y.1)[j]?) ∧ TV W y.1 y.2 := fun i hi => by
      have h1 := hel i hi
      rw [List.getElem?_eq_getElem (by omega)] at h1
      obtain ⟨cs', h2, h3⟩ := Option.bind_eq_some_iff.1 h1
      obtain ⟨r, t, rfl, htv⟩ := ih n (by omega) cs' _ h3
      obtain ⟨_, _, h4⟩ := World.cells?_some h2
      exact ⟨⟨r, t⟩, h4, htv⟩
    obtain ⟨F, hF⟩ := Go.Deep.choose_lt (α := TR × Tm) each
    refine ⟨some a, len, cap, (List.range len).map fun i => (F i).2, hcs, ⟨by simp, hl, hm, fun i => (F i).1, fun hn => ?_, fun i t e => ?_⟩⟩
    · have h0 := (hF 0 hn).1 0 (by omega)
      have h0' : W.cell? ((a.add (0 * 7)).add 0) = some (.int .i64 (F 0).1.k) := h0
      have hspot : a.spot = none := by
        have := World.cell?_spot h0'
        simpa [Addr.add] using this
      obtain ⟨b, o, sp⟩ := a
      simp only at hspot
      subst hspot
      refine ⟨b, o, rfl, ?_, fun i hi => ?_⟩
      · have := World.block_lt_of_cell? W _ h0'
        rw [add_none, add_none] at this
        exact this
      · have := (hF i hi).1
        rw [add_none] at this
        exact At7.of this
    · rw [List.getElem?_map] at e
      by_cases hi : i < len
      · rw [List.getElem?_range hi] at e
        simp only [Option.map_some, Option.some.injEq] at e
        rw [← e]
        exact (hF i hi).2
      · rw [List.getElem?_eq_none (by simp; omega)] at e
        simp at e

set_option maxRecDepth 100000 in
/-- A term that came in. -/
theorem open_tr {H : Type} {enc : TypeId × Value → H} {W : World} : ∀ (fuel : Nat) (cs : List Value) (x : DataW H × List MemPlace),
    DataW.trod enc Tryz.prog W 0 (fun _ => true) true fuel 40 cs = some x → ∃ r t, cs = TR.cells r ∧ TV W r t := by
  intro fuel
  induction fuel using Nat.strongRecOn with
  | ind fuel ih =>
    intro cs x h
    obtain ⟨xs, n, hfu, _, hcl, hxl, hf⟩ := DataW.trod_struct Tryz.underlying40 h
    rw [cells_term] at hcl
    obtain ⟨c0, c1, c2, c3, c4, c5, c6, rfl⟩ := list7 hcl
    have get : ∀ i, i < 6 → ∃ y, xs[i]? = some y := fun i hi => ⟨_, List.getElem?_eq_getElem (by rw [hxl]; exact hi)⟩
    have f0 : DataW.trod enc Tryz.prog W 0 (fun _ => true) true n 3 [c0] = xs[0]? := by simpa [cells_int'] using hf 0 _ rfl
    have f1 : DataW.trod enc Tryz.prog W 0 (fun _ => true) true n 3 [c1] = xs[1]? := by simpa [cells_int'] using hf 1 _ rfl
    have f2 : DataW.trod enc Tryz.prog W 0 (fun _ => true) true n 37 [c2, c3] = xs[2]? := by simpa [cells_num'] using hf 2 _ rfl
    have f3 : DataW.trod enc Tryz.prog W 0 (fun _ => true) true n 30 [c4] = xs[3]? := by simpa [cells_u64'] using hf 3 _ rfl
    have f4 : DataW.trod enc Tryz.prog W 0 (fun _ => true) true n 9 [c5] = xs[4]? := by simpa [cells_string'] using hf 4 _ rfl
    have f5 : DataW.trod enc Tryz.prog W 0 (fun _ => true) true n 38 [c6] = xs[5]? := by simpa [cells_terms'] using hf 5 _ rfl
    obtain ⟨y0, e0⟩ := get 0 (by omega)
    obtain ⟨y1, e1⟩ := get 1 (by omega)
    obtain ⟨y2, e2⟩ := get 2 (by omega)
    obtain ⟨y3, e3⟩ := get 3 (by omega)
    obtain ⟨y4, e4⟩ := get 4 (by omega)
    obtain ⟨y5, e5⟩ := get 5 (by omega)
    rw [e0] at f0; rw [e1] at f1; rw [e2] at f2; rw [e3] at f3; rw [e4] at f4; rw [e5] at f5
    obtain ⟨k, q0, _, wk⟩ := DataW.trod_int Tryz.underlying3 f0
    obtain ⟨nn, q1, _, wn⟩ := DataW.trod_int Tryz.underlying3 f1
    obtain ⟨u, q3, _, wu⟩ := DataW.trod_int Tryz.underlying30 f3
    obtain ⟨s, q4, _, ws⟩ := DataW.trod_string Tryz.underlying9 f4
    obtain ⟨zs, n', _, _, _, hzl, hz⟩ := DataW.trod_struct Tryz.underlying37 f2
    have g0 : DataW.trod enc Tryz.prog W 0 (fun _ => true) true n' 4 [c2] = zs[0]? := by simpa [cells_bool'] using hz 0 _ rfl
    have g1 : DataW.trod enc Tryz.prog W 0 (fun _ => true) true n' 35 [c3] = zs[1]? := by simpa [cells_limbs'] using hz 1 _ rfl
    have hzl2 : zs.length = 2 := hzl
    obtain ⟨z0, hz0⟩ : ∃ y, zs[0]? = some y := ⟨_, List.getElem?_eq_getElem (by omega)⟩
    obtain ⟨z1, hz1⟩ : ∃ y, zs[1]? = some y := ⟨_, List.getElem?_eq_getElem (by omega)⟩
    rw [hz0] at g0; rw [hz1] at g1
    obtain ⟨g, q2, _⟩ := DataW.trod_bool Tryz.underlying4 g0
    obtain ⟨A, ln, lc, l, q3', hlim, hlc⟩ := open_lim g1
    obtain ⟨B, m, d, ts, q5, hts⟩ := open_spread f5 (fun f hf cs x h => ih f (by omega) cs x h)
    simp only [List.cons.injEq, and_true] at q0 q1 q2 q3 q3' q4 q5
    subst q0 q1 q2 q3 q3' q4 q5
    have b0 := wf_i64 wk
    have b1 := wf_i64 wn
    have b3 := wf_u64 wu
    exact ⟨⟨k, nn, g, A, ln, lc, u, s, B, m, d⟩, _, rfl, TV.make ⟨b0.1, b0.2, b1.1, b1.2, b3.1, b3.2, hlim, hlc, ws, hts.md, hts.dd⟩ hts⟩

set_option maxRecDepth 100000 in
set_option maxRecDepth 100000 in
theorem open_term {H : Type} {enc : TypeId × Value → H} {W : World} {base : Nat} {v : Value} {d : DataW H} {p : List MemPlace}
    (hv : Value.okWide Tryz.prog W .any base 40 v) (h : DataW.Trod enc Tryz.prog W 0 (fun _ => true) true 40 v d p) :
    ∃ (r : TR) (t : Tm), v = .agg #[.int .i64 r.k, .int .i64 r.n, .bool r.g, .slice r.A r.ln r.lc, .int .u64 r.u, .string r.s, .slice r.B r.m r.d] ∧ TV W r t := by
  obtain ⟨cs, rfl, hsz⟩ := okWide_struct Tryz.underlying40 hv
  obtain ⟨fuel, hf⟩ := h
  obtain ⟨r, t, hc, htv⟩ := open_tr fuel _ _ hf
  refine ⟨r, t, ?_, htv⟩
  have : cs.toList = TR.cells r := by simpa [Value.cells] using hc
  congr 1
  apply Array.ext'
  rw [this]
  rfl
set_option maxRecDepth 100000 in
set_option maxRecDepth 100000 in
theorem open_terms {H : Type} {enc : TypeId × Value → H} {W : World} {v : Value} {d : DataW H} {p : List MemPlace}
    (hv : ∃ a n c, v = .slice a n c) (h : DataW.Trod enc Tryz.prog W 0 (fun _ => true) true 38 v d p) :
    ∃ (B : Option Addr) (m c : Nat) (ts : List Tm), v = .slice B m c ∧ TVs W B m c ts := by
  obtain ⟨a, n, c, rfl⟩ := hv
  obtain ⟨fuel, hf⟩ := h
  obtain ⟨B, m, d, ts, hc, hts⟩ := open_spread (fuel := fuel) (cs := [.slice a n c]) (by simpa [Value.cells] using hf) (fun f _ => open_tr f)
  simp only [List.cons.injEq, and_true] at hc
  exact ⟨B, m, d, ts, hc, hts⟩

end Go.Proofs.YtejmmjedognaaaaGreat

namespace Go.Proofs.YtejmmjedognaaaaGreat
open Go.RowKit

set_option maxRecDepth 100000 in
set_option maxHeartbeats 1000000 in
theorem own_any (w : World) (r : TR) (t : Tm) (h : TV w r t) (ho : t.Ok) (own : Nat) (hown : own = if t.kind = 2 then 1 + t.mag.length else if t.kind = 9 then 1 + t.bytes.size / 8 else 1) :
    Calls Tryz.prog 142 #[.agg #[.int .i64 r.k, .int .i64 r.n, .bool r.g, .slice r.A r.ln r.lc, .int .u64 r.u, .string r.s, .slice r.B r.m r.d]] w fun e w' => e = .returned (.int .i64 (own : Int)) ∧ Below w.heap.size w w' := by
  have hl : r.ln ≤ 300 := by rw [← h.magLen]; cases t; exact (Tm.ok_mk.1 ho).1
  have hs : r.s.size ≤ 65535 := by rw [← h.bytes]; cases t; exact (Tm.ok_mk.1 ho).2.1
  rw [h.kind, h.magLen, h.bytes] at hown
  have H := Lib.hid hown
  clear hown
  go_enter Tryz.func142, Tryz.ntmps142
  go_wp2
  all_goals
    go_ret
    refine ⟨?_, (Below.refl _ _).alloc (Nat.le_refl _) _⟩
    have H' := H.out
    simp_all


set_option maxRecDepth 100000 in
theorem t_big {w : World} {r : TR} {t : Tm} (h : TV w r t) : t.big = (decide (1000 < r.s.size) || decide (40 < r.ln)) := by
  rw [← h.bytes, ← h.magLen]
  cases t
  rfl
set_option maxRecDepth 100000 in
theorem prts_step {ts : List Tm} {j : Nat} {t : Tm} {most z : Int} (e : ts[j]? = some t) (hz : z = Tm.prts (ts.take j) 0 most) (hle : z ≤ most) :
    Tm.prts (ts.take (j + 1)) 0 most = if t.big then most + 1 else z + 1 + t.prt (most - z - 1) := by
  rw [List.take_add_one, e, Tm.prts_append, ← hz, if_pos hle]
  simp only [Option.toList, Tm.prts]
  rw [if_pos hle]
set_option maxRecDepth 100000 in
theorem prts_end {ts : List Tm} {j : Nat} {most z : Int} (hz : z = Tm.prts (ts.take j) 0 most) (h : most < z ∨ ts.length ≤ j) : Tm.prts ts 0 most = z := by
  have := Tm.prts_append (ts.take j) (ts.drop j) 0 most
  rw [List.take_append_drop, ← hz] at this
  rw [this]
  rcases h with h | h
  · rw [if_neg (by omega)]
  · rw [List.drop_eq_nil_of_le h]
    split
    · rw [Tm.prts]
    · rfl

/-- Are terms more than is gone through? -/
def greatB (ts : List Tm) (most : Int) : Bool := decide (most < Tm.prts ts 0 most)
set_option maxRecDepth 100000 in
theorem greatB_no {ts : List Tm} {most : Int} (h : greatB ts most = false) : (ts.length : Int) ≤ most ∧ ∀ t ∈ ts, t.Ok := by
  have h1 := of_decide_eq_false h
  obtain ⟨h2, h3⟩ := Tm.fine (ts := ts) (most := most) (by omega)
  exact ⟨by have := Tm.sizes_len ts; omega, h3⟩

set_option maxRecDepth 100000 in
/-- A row of one term, newly made. -/
theorem TVs.one {w : World} {r : TR} {t : Tm} (h : TV w r t) : TVs (w.alloc (.cells #[.int .i64 r.k, .int .i64 r.n, .bool r.g, .slice r.A r.ln r.lc, .int .u64 r.u, .string r.s, .slice r.B r.m r.d] 40)) (some ⟨w.heap.size, 0, none⟩) 1 1 [t] := by
  refine ⟨rfl, Nat.le_refl _, by decide, fun _ => r, fun _ => ⟨w.heap.size, 0, rfl, by simp, fun i hi => ?_⟩, fun i x e => ?_⟩
  · have : i = 0 := by omega
    subst this
    refine At7.of fun j hj => ?_
    rw [add_none, World.cell?_alloc_at _ _ _ _ rfl]
    simp [TR.cells]
  · cases i with
    | zero =>
      simp at e
      rw [← e]
      exact h.bel ((Below.refl _ _).alloc (Nat.le_refl _) _)
    | succ i => simp at e

end Go.Proofs.YtejmmjedognaaaaGreat

namespace Go.Proofs.YtejmmjedognaaaaGreat
open Go.RowKit

set_option maxRecDepth 100000 in
theorem Ok.limbs {w : World} {r : TR} {t : Tm} (h : TV w r t) (ho : t.Ok) : r.ln ≤ 300 := by rw [← h.magLen]; cases t; exact (Tm.ok_mk.1 ho).1
set_option maxRecDepth 100000 in
theorem Ok.bytes {w : World} {r : TR} {t : Tm} (h : TV w r t) (ho : t.Ok) : r.s.size ≤ 65535 := by rw [← h.bytes]; cases t; exact (Tm.ok_mk.1 ho).2.1
set_option maxRecDepth 100000 in
theorem Ok.kids {t x : Tm} (ho : t.Ok) (h : x ∈ t.args) : x.Ok := by cases t; exact (Tm.ok_mk.1 ho).2.2 x h

/-- The weight of a term without its arguments. -/
def ownW (t : Tm) : Nat := if t.kind = 2 then 1 + t.mag.length else if t.kind = 9 then 1 + t.bytes.size / 8 else 1
set_option maxRecDepth 100000 in
theorem wt_leaf {t : Tm} (h6 : t.kind ≠ 6) (h8 : t.kind ≠ 8) : t.wt = ownW t := by
  cases t with
  | mk k n g l u s ks =>
    have e : ownW (.mk k n g l u s ks) = if k = 2 then 1 + l.length else if k = 9 then 1 + s.size / 8 else 1 := rfl
    rw [e, Tm.wt, if_neg (show ¬ (k = 6 ∨ k = 8) from fun h => h.elim h6 h8)]
set_option maxRecDepth 100000 in
theorem wt_node {t : Tm} (h : t.kind = 6 ∨ t.kind = 8) : t.wt = 1 + Tm.wts t.args ∧ ownW t = 1 := by
  cases t with
  | mk k n g l u s ks =>
    have h' : k = 6 ∨ k = 8 := h
    have e : ownW (.mk k n g l u s ks) = if k = 2 then 1 + l.length else if k = 9 then 1 + s.size / 8 else 1 := rfl
    rw [e, Tm.wt, if_pos h', if_neg (show ¬ k = 2 by omega), if_neg (show ¬ k = 9 by omega), if_neg (show ¬ k = 2 by omega), if_neg (show ¬ k = 9 by omega)]
    exact ⟨rfl, rfl⟩
set_option maxRecDepth 100000 in
theorem wts_all {ts : List Tm} {j : Nat} (h : ts.length ≤ j) : Tm.wts (ts.take j) = Tm.wts ts := by rw [List.take_of_length_le h]
set_option maxRecDepth 100000 in
theorem ownW_le {w : World} {r : TR} {t : Tm} (h : TV w r t) (ho : t.Ok) : 1 ≤ ownW t ∧ ownW t ≤ 10000 := by
  have h1 := Ok.limbs h ho
  have h2 := Ok.bytes h ho
  rw [← h.magLen] at h1
  rw [← h.bytes] at h2
  unfold ownW
  split
  · omega
  · split <;> omega

/-- The boxed record. -/
def Box7 (w : World) (g : Nat) (r : TR) : Prop := w.heap[g]? = some (.cells #[.int .i64 r.k, .int .i64 r.n, .bool r.g, .slice r.A r.ln r.lc, .int .u64 r.u, .string r.s, .slice r.B r.m r.d] 40 (0, 0))
section
variable {w w' : World} {g : Nat} {r : TR}
set_option maxRecDepth 100000 in
theorem Box7.lt (h : Box7 w g r) : g < w.heap.size := (Array.getElem?_eq_some_iff.1 h).1
set_option maxRecDepth 100000 in
theorem Box7.new (w : World) (r : TR) : Box7 (w.alloc (.cells #[.int .i64 r.k, .int .i64 r.n, .bool r.g, .slice r.A r.ln r.lc, .int .u64 r.u, .string r.s, .slice r.B r.m r.d] 40)) w.heap.size r := heap_alloc_new w _
set_option maxRecDepth 100000 in
theorem Box7.below (h : Box7 w g r) (hb : Below w.heap.size w w') : Box7 w' g r := (hb.block g h.lt).trans h
set_option maxRecDepth 100000 in
theorem Box7.at (h : Box7 w g r) : At7 w g 0 r := by
  refine ⟨?_, ?_, ?_, ?_, ?_, ?_, ?_⟩ <;> (rw [cell_of_row w g _ _ _ (0, 0) h]; rfl)
set_option maxRecDepth 100000 in
theorem Box7.drew (h : Box7 w g r) : Box7 w.drew g r := h
end

set_option maxRecDepth 100000 in
set_option maxHeartbeats 2000000 in
theorem room_any (t : Tm) : ∀ (w : World) (r : TR), TV w r t → t.Ok → ∀ left : Int, 0 ≤ left → left ≤ 1000000 →
    Calls Tryz.prog 114 #[.agg #[.int .i64 r.k, .int .i64 r.n, .bool r.g, .slice r.A r.ln r.lc, .int .u64 r.u, .string r.s, .slice r.B r.m r.d], .int .i64 left] w fun e w' => e = .returned (.int .i64 (left - min left (t.wt : Int))) ∧ Below w.heap.size w w' := by
  induction t using Tm.ind with
  | h k n g l u s ks ih =>
    intro w r htv hok left hl0 hl1
    have IH := Lib.hid ih
    clear ih
    obtain ⟨t, ht⟩ : ∃ t, t = Tm.mk k n g l u s ks := ⟨_, rfl⟩
    have hks : t.args = ks := by rw [ht]; rfl
    rw [← hks] at IH
    rw [← ht] at htv hok ⊢
    clear hks ht
    have how := ownW_le htv hok
    obtain ⟨R, hR⟩ : ∃ R, R = left - min left (t.wt : Int) := ⟨_, rfl⟩
    rw [← hR]
    have HR := Lib.hid hR
    have hkk := htv.kind
    have hts := htv.args
    have hml : r.m ≤ maxLen := Nat.le_trans hts.md hts.dd
    have hml' : (r.m : Int) ≤ 9223372036854775807 := by unfold maxLen at hml; omega
    clear hR
    have hb0 := (Below.refl w.heap.size w).alloc (Nat.le_refl _) (.cells #[.int .i64 r.k, .int .i64 r.n, .bool r.g, .slice r.A r.ln r.lc, .int .u64 r.u, .string r.s, .slice r.B r.m r.d] 40)
    have hbx := Box7.new w r
    have htv0 := htv.bel hb0
    have hsz : w.heap.size < (w.alloc (.cells #[.int .i64 r.k, .int .i64 r.n, .bool r.g, .slice r.A r.ln r.lc, .int .u64 r.u, .string r.s, .slice r.B r.m r.d] 40)).heap.size := by simp
    go_enter Tryz.func114, Tryz.ntmps114
    go_wp2_with fail
    generalize w.alloc (.cells #[.int .i64 r.k, .int .i64 r.n, .bool r.g, .slice r.A r.ln r.lc, .int .u64 r.u, .string r.s, .slice r.B r.m r.d] 40) = W at *
    refine (own_any W r t htv0 hok (ownW t) rfl).mono ?_
    generalize hq : ownW t = q at how ⊢
    have HQ := Lib.hid hq
    clear hq
    rintro e w1 ⟨rfl, hb1⟩
    have hbx1 := hbx.below hb1
    have htv1 := htv0.bel hb1
    have hb01 := hb0.trans (hb1.mono hb0.size)
    have x0 := hbx1.at.c0
    have x6 := hbx1.at.c6
    by_cases hnode : r.k = 6 ∨ r.k = 8
    · have hw := wt_node (t := t) (by rw [hkk]; exact hnode)
      have hq1 : q = 1 := by rw [← HQ.out]; exact hw.2
      subst hq1
      have HW := Lib.hid hw.1
      clear hw
      have hts1 := htv1.args
      obtain ⟨p, hp⟩ : ∃ p, p = w.heap.size := ⟨_, rfl⟩
      rw [← hp] at hbx1
      have hx0 : w1.cell? ⟨p, 0, none⟩ = some (.int .i64 r.k) := hbx1.at.c0
      have hx6 : w1.cell? ⟨p, 6, none⟩ = some (.slice r.B r.m r.d) := hbx1.at.c6
      clear x0 x6 hbx
      have hwp : Hid (p = w.heap.size) := hp
      rw [← hp]
      clear hp
      have hcase : Hid (R = left - min left (1 + (Tm.wts t.args : Int))) := Lib.hid (by rw [HR.out, HW.out]; congr 2)
      clear HR HW htv htv0 htv1 hts hkk
      rcases hnode with h6 | h6
      all_goals
        rw [h6] at hx0
        by_cases hl1' : left ≤ 1
        all_goals
          go_wp2_with fail
          go_loopw [1, 5] (fun x i w' => ∃ (j : Nat) (z : Int), j ≤ r.m ∧ i = .int .i64 (j : Int) ∧ x = .int .i64 z ∧ 0 ≤ z ∧ z ≤ left ∧ Hid (z = left - min left (1 + (Tm.wts (t.args.take j) : Int))) ∧ Below w1.heap.size w1 w') (fun _ i _ => r.m - (intOf i).toNat)
          case atStart => exact ⟨0, _, Nat.zero_le _, rfl, rfl, by omega, by omega, Lib.hid (by simp only [List.take_zero, Tm.wts]; omega), Below.refl _ _⟩
          case round =>
            obtain ⟨j, z, hj, rfl, rfl, hz0, hz1, hz, hb⟩ := hrel
            have hxx := (hbx1.below hb).at
            have hx6' : wr.cell? ⟨p, 6, none⟩ = some (.slice r.B r.m r.d) := hxx.c6
            by_cases hjm : j < r.m
            · by_cases hzp : 0 < z
              · obtain ⟨b, o, r', t', e, hlt, h7, het, htv'⟩ := (hts1.below hb).get j hjm
                have hmem := List.mem_of_getElem? het
                have st := Lib.hid (Tm.wts_take_succ het)
                have d0 := h7.c0
                have d1 := h7.c1
                have d2 := h7.c2
                have d3 := h7.c3
                have d4 := h7.c4
                have d5 := h7.c5
                have d6 := h7.c6
                rw [e] at hx6'
                clear e
                have hd1 : decide ((j : Int) < (r.m : Int)) = true := by rw [decide_eq_true_iff]; omega
                go_wp2_with fail
                refine (IH.out t' hmem wr r' htv' (Ok.kids hok hmem) z (by omega) (by omega)).mono ?_
                obtain ⟨q', hq'⟩ : ∃ q', q' = z - min z (t'.wt : Int) := ⟨_, rfl⟩
                have hqb : 0 ≤ q' ∧ q' ≤ z := by omega
                have hst := Lib.hid (show q' = left - min left (1 + (Tm.wts (t.args.take (j + 1)) : Int)) by
                  have h1 := st.out
                  have h2 := hz.out
                  omega)
                rw [← hq']
                clear hq'
                rintro e w2 ⟨rfl, hb2⟩
                go_wp2_with fail
                go_roundw
                case rel => exact ⟨j + 1, q', by omega, by go_num, by go_num, by omega, by omega, hst, hb.trans (hb2.mono hb.size)⟩
                case measure => simp [intOf]; omega
              · have hfin := Lib.hid (show R = z by
                  have h1 := hcase.out
                  have h2 := hz.out
                  have h3 := Tm.wts_take_le t.args j
                  omega)
                have hd1 : decide ((j : Int) < (r.m : Int)) = true := by rw [decide_eq_true_iff]; omega
                have hd : decide (0 < z) = false := by rw [decide_eq_false_iff_not]; exact hzp
                go_wp2_with fail
                go_ret
                exact ⟨by rw [hfin.out]; rfl, hb01.trans (hb.mono (by have := hb01.size; omega))⟩
            · have hfin := Lib.hid (show R = z by
                have h1 := hcase.out
                have h2 := hz.out
                rw [wts_all (by rw [hts1.len]; omega)] at h2
                omega)
              have hd1 : decide ((j : Int) < (r.m : Int)) = false := by rw [decide_eq_false_iff_not]; omega
              go_wp2_with fail
              go_ret
              exact ⟨by rw [hfin.out]; rfl, hb01.trans (hb.mono (by have := hb01.size; omega))⟩
    · have e6 : (r.k == 6) = false := by rw [beq_eq_false_iff_ne]; omega
      have e8 : (r.k == 8) = false := by rw [beq_eq_false_iff_ne]; omega
      have n6 : (r.k != 6) = true := by rw [bne_iff_ne]; omega
      have n8 : (r.k != 8) = true := by rw [bne_iff_ne]; omega
      have hw := Lib.hid (wt_leaf (t := t) (by rw [hkk]; omega) (by rw [hkk]; omega))
      have hcase : Hid (R = left - min left (q : Int)) := Lib.hid (by rw [HR.out, hw.out, HQ.out])
      by_cases hlq : left ≤ q
      all_goals
        go_wp2_with fail
        go_ret
        exact ⟨by rw [hcase.out]; simp; omega, hb01⟩
end Go.Proofs.YtejmmjedognaaaaGreat
