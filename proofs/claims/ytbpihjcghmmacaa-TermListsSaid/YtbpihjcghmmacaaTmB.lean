/-
  TERMS IN MEMORY: what a record of seven cells stands for, what keeps it, how one that came in is opened.
-/
import Derived.Test.YtbpihjcghmmacaaTmA
import Derived.Test.YtbpihjcghmmacaaMem
import Derived.OpenShut
import Derived.ProofKit
import Derived.Lib.SmallJoins
namespace Go.Proofs.Ytbpihjcghmmacaa
open Go.RowKit Go.ChangeShapes Go.WideShapes

/-- A term's own cells. -/
structure TR where
  k : Int
  n : Int
  g : Bool
  A : Option Addr
  ln : Nat
  lc : Nat
  u : Int
  s : ByteArray
  B : Option Addr
  m : Nat
  d : Nat
instance : Inhabited TR := ⟨0, 0, false, none, 0, 0, 0, ⟨#[]⟩, none, 0, 0⟩

/-- The element at 'b, o' is the record. -/
structure At7 (w : World) (b o : Nat) (r : TR) : Prop where
  c0 : w.cell? ⟨b, o, none⟩ = some (.int .i64 r.k)
  c1 : w.cell? ⟨b, o + 1, none⟩ = some (.int .i64 r.n)
  c2 : w.cell? ⟨b, o + 2, none⟩ = some (.bool r.g)
  c3 : w.cell? ⟨b, o + 3, none⟩ = some (.slice r.A r.ln r.lc)
  c4 : w.cell? ⟨b, o + 4, none⟩ = some (.int .u64 r.u)
  c5 : w.cell? ⟨b, o + 5, none⟩ = some (.string r.s)
  c6 : w.cell? ⟨b, o + 6, none⟩ = some (.slice r.B r.m r.d)
theorem At7.below {w w' : World} {b o : Nat} {r : TR} (h : At7 w b o r) (hb : Below w.heap.size w w') (hlt : b < w.heap.size) : At7 w' b o r :=
  ⟨(hb.cell (p := ⟨b, o, none⟩) hlt).trans h.c0, (hb.cell (p := ⟨b, o + 1, none⟩) hlt).trans h.c1, (hb.cell (p := ⟨b, o + 2, none⟩) hlt).trans h.c2, (hb.cell (p := ⟨b, o + 3, none⟩) hlt).trans h.c3,
    (hb.cell (p := ⟨b, o + 4, none⟩) hlt).trans h.c4, (hb.cell (p := ⟨b, o + 5, none⟩) hlt).trans h.c5, (hb.cell (p := ⟨b, o + 6, none⟩) hlt).trans h.c6⟩
theorem At7.lt {w : World} {b o : Nat} {r : TR} (h : At7 w b o r) : b < w.heap.size := World.block_lt_of_cell? w _ h.c0

/-- The record's plain fields are such as may stand there; its limbs are l. -/
structure Flat (w : World) (r : TR) (l : List Nat) : Prop where
  k0 : -9223372036854775808 ≤ r.k
  k1 : r.k ≤ 9223372036854775807
  n0 : -9223372036854775808 ≤ r.n
  n1 : r.n ≤ 9223372036854775807
  u0 : 0 ≤ r.u
  u1 : r.u ≤ 18446744073709551615
  lim : Lim w r.A r.ln r.lc l
  cap : r.lc ≤ maxLen
  str : r.s.size ≤ maxLen
  md : r.m ≤ r.d
  dd : r.d ≤ maxLen
theorem Flat.below {w w' : World} {r : TR} {l : List Nat} (h : Flat w r l) (hb : Below w.heap.size w w') : Flat w' r l :=
  ⟨h.k0, h.k1, h.n0, h.n1, h.u0, h.u1, h.lim.below hb, h.cap, h.str, h.md, h.dd⟩

/-- The slice 'B' has the records V, so many. -/
def Spread (w : World) (B : Option Addr) (m : Nat) (V : Nat → TR) : Prop :=
  0 < m → ∃ b o, B = some ⟨b, o, none⟩ ∧ b < w.heap.size ∧ ∀ i, i < m → At7 w b (o + i * 7) (V i)
theorem Spread.below {w w' : World} {B : Option Addr} {m : Nat} {V : Nat → TR} (h : Spread w B m V) (hb : Below w.heap.size w w') : Spread w' B m V := fun hm => by
  obtain ⟨b, o, e, hlt, hc⟩ := h hm
  exact ⟨b, o, e, Nat.lt_of_lt_of_le hlt hb.size, fun i hi => (hc i hi).below hb hlt⟩

/-- The record stands for the term. -/
inductive TV (w : World) : TR → Tm → Prop
  | mk (r : TR) (l : List Nat) (ks : List Tm) (V : Nat → TR) (hf : Flat w r l) (hm : ks.length = r.m) (hs : Spread w r.B r.m V)
    (hk : ∀ i t, ks[i]? = some t → TV w (V i) t) : TV w r (.mk r.k r.n r.g l r.u r.s ks)

theorem TV.bel {w w' : World} {r : TR} {t : Tm} (h : TV w r t) (hb : Below w.heap.size w w') : TV w' r t := by
  induction h with
  | mk r l ks V hf hm hs hk ih => exact .mk r l ks V (hf.below hb) hm (hs.below hb) ih

/-- The slice stands for the terms. -/
structure TVs (w : World) (B : Option Addr) (m d : Nat) (ts : List Tm) : Prop where
  len : ts.length = m
  md : m ≤ d
  dd : d ≤ maxLen
  el : ∃ V : Nat → TR, Spread w B m V ∧ ∀ i t, ts[i]? = some t → TV w (V i) t
theorem TVs.below {w w' : World} {B : Option Addr} {m d : Nat} {ts : List Tm} (h : TVs w B m d ts) (hb : Below w.heap.size w w') : TVs w' B m d ts := by
  obtain ⟨V, h1, h2⟩ := h.el
  exact ⟨h.len, h.md, h.dd, V, h1.below hb, fun i t e => (h2 i t e).bel hb⟩
theorem TVs.nil (w : World) (B : Option Addr) (d : Nat) (hd : d ≤ maxLen) : TVs w B 0 d [] :=
  ⟨rfl, Nat.zero_le _, hd, fun _ => default, fun h => absurd h (by omega), fun i t e => by simp at e⟩
/-- One of them. -/
theorem TVs.get {w : World} {B : Option Addr} {m d : Nat} {ts : List Tm} (h : TVs w B m d ts) (i : Nat) (hi : i < m) :
    ∃ b o r t, B = some ⟨b, o, none⟩ ∧ b < w.heap.size ∧ At7 w b (o + i * 7) r ∧ ts[i]? = some t ∧ TV w r t := by
  obtain ⟨V, h1, h2⟩ := h.el
  obtain ⟨b, o, e, hlt, hc⟩ := h1 (by omega)
  have hg : ts[i]? = some (ts[i]'(by rw [h.len]; exact hi)) := List.getElem?_eq_getElem (by rw [h.len]; exact hi)
  exact ⟨b, o, V i, _, e, hlt, hc i hi, hg, h2 i _ hg⟩

section
variable {w : World} {r : TR} {t : Tm}
theorem TV.flat (h : TV w r t) : Flat w r t.mag := by cases h; assumption
theorem TV.kind (h : TV w r t) : t.kind = r.k := by cases h; rfl
theorem TV.num (h : TV w r t) : t.num = r.n := by cases h; rfl
theorem TV.neg (h : TV w r t) : t.neg = r.g := by cases h; rfl
theorem TV.bits (h : TV w r t) : t.bits = r.u := by cases h; rfl
theorem TV.bytes (h : TV w r t) : t.bytes = r.s := by cases h; rfl
theorem TV.magLen (h : TV w r t) : t.mag.length = r.ln := h.flat.lim.1
theorem TV.args (h : TV w r t) : TVs w r.B r.m r.d t.args := by
  cases h with
  | mk _ l ks V hf hm hs hk => exact ⟨hm, hf.md, hf.dd, V, hs, hk⟩
theorem TV.len (h : TV w r t) : t.args.length = r.m := h.args.len
end
theorem TV.make {w : World} {r : TR} {l : List Nat} {ks : List Tm} (hf : Flat w r l) (hs : TVs w r.B r.m r.d ks) : TV w r (.mk r.k r.n r.g l r.u r.s ks) := by
  obtain ⟨V, h1, h2⟩ := hs.el
  exact .mk r l ks V hf hs.len h1 h2

/-! ### A term that came in -/
theorem cells_term : Try.prog.cellsOf 28 = 7 := by kernel_rfl
theorem cells_num' : Try.prog.cellsOf 24 = 2 := by kernel_rfl
theorem cells_int' : Try.prog.cellsOf 3 = 1 := by kernel_rfl
theorem cells_bool' : Try.prog.cellsOf 4 = 1 := by kernel_rfl
theorem cells_limbs' : Try.prog.cellsOf 22 = 1 := by kernel_rfl
theorem cells_u64' : Try.prog.cellsOf 25 = 1 := by kernel_rfl
theorem cells_string' : Try.prog.cellsOf 9 = 1 := by kernel_rfl
theorem cells_terms' : Try.prog.cellsOf 26 = 1 := by kernel_rfl

theorem add_none (b o j : Nat) : (⟨b, o, none⟩ : Addr).add j = ⟨b, o + j, none⟩ := by unfold Addr.add; split <;> simp_all

/-- Limbs that came in. -/
theorem open_lim {H : Type} {enc : TypeId × Value → H} {W : World} {fuel : Nat} {cs : List Value} {x : DataW H × List MemPlace}
    (h : DataW.trod enc Try.prog W 0 (fun _ => true) true fuel 22 cs = some x) :
    ∃ (A : Option Addr) (n c : Nat) (l : List Nat), cs = [.slice A n c] ∧ Lim W A n c l ∧ c ≤ maxLen := by
  rcases open_ints Try.underlying22 Try.underlying50 (by kernel_rfl) h with ⟨e1, _⟩ | ⟨a, len, cap, zs, e1, _, hl, hm, hz, _, hcell, hwz⟩
  · exact ⟨none, 0, 0, [], e1, Lim.nil W none 0, Nat.zero_le _⟩
  · simp only [if_true] at hz
    have hb : ∀ j, j < zs.length → 0 ≤ zs.getD j 0 ∧ zs.getD j 0 ≤ 4294967295 := fun j hj => by
      have hmem : zs.getD j 0 ∈ zs := by
        rw [List.getD_eq_getElem?_getD, List.getElem?_eq_getElem hj, Option.getD_some]
        exact List.getElem_mem hj
      have := hwz _ hmem
      generalize zs.getD j 0 = y at this ⊢
      simp [Lit.wf, IntKind.min, IntKind.max, IntKind.signed, IntKind.bits] at this
      omega
    have hlg : ∀ j, j < len → Lm.lg ((zs.take len).map Int.toNat) j = (zs.getD j 0).toNat := fun j hj => by
      simp only [Lm.lg, List.getD_eq_getElem?_getD, List.getElem?_map, List.getElem?_take_of_lt hj]
      rw [List.getElem?_eq_getElem (by omega)]
      rfl
    refine ⟨some a, len, cap, (zs.take len).map Int.toNat, e1, ⟨?_, hl, ?_, fun hn => ?_⟩, hm⟩
    · rw [List.length_map, List.length_take]; omega
    · intro x hx
      rw [List.mem_map] at hx
      obtain ⟨y, hy, rfl⟩ := hx
      have := hwz y (List.mem_of_mem_take hy)
      simp [Lit.wf, IntKind.min, IntKind.max, IntKind.signed, IntKind.bits] at this
      omega
    · have h0 := hcell 0 (by omega)
      have hspot : a.spot = none := by
        have := World.cell?_spot h0
        simpa [Addr.add] using this
      obtain ⟨b, o, sp⟩ := a
      simp only at hspot
      subst hspot
      refine ⟨b, o, rfl, ?_, fun j hj => ?_⟩
      · have := World.block_lt_of_cell? W _ h0
        rw [add_none] at this
        exact this
      · rw [hlg j hj, ← add_none b o j, hcell j (by omega)]
        have := hb j (by omega)
        congr 2
        omega

theorem list7 {α : Type} {cs : List α} (h : cs.length = 7) : ∃ c0 c1 c2 c3 c4 c5 c6, cs = [c0, c1, c2, c3, c4, c5, c6] := by
  match cs, h with
  | [c0, c1, c2, c3, c4, c5, c6], _ => exact ⟨c0, c1, c2, c3, c4, c5, c6, rfl⟩

/-- A record's cells. -/
def TR.cells (r : TR) : List Value := [.int .i64 r.k, .int .i64 r.n, .bool r.g, .slice r.A r.ln r.lc, .int .u64 r.u, .string r.s, .slice r.B r.m r.d]

theorem At7.of {w : World} {b o : Nat} {r : TR} (h : ∀ i, i < 7 → w.cell? (Addr.add ⟨b, o, none⟩ i) = r.cells[i]?) : At7 w b o r := by
  simp only [add_none] at h
  exact ⟨h 0 (by omega), h 1 (by omega), h 2 (by omega), h 3 (by omega), h 4 (by omega), h 5 (by omega), h 6 (by omega)⟩

theorem wf_i64 {z : Int} (h : (Lit.int .i64 z).wf = true) : -9223372036854775808 ≤ z ∧ z ≤ 9223372036854775807 := by
  simp [Lit.wf, IntKind.min, IntKind.max, IntKind.signed, IntKind.bits] at h
  omega
theorem wf_u64 {z : Int} (h : (Lit.int .u64 z).wf = true) : 0 ≤ z ∧ z ≤ 18446744073709551615 := by
  simp [Lit.wf, IntKind.min, IntKind.max, IntKind.signed, IntKind.bits] at h
  omega

/-- A slice of terms that came in, its elements opened with less fuel. -/
theorem open_spread {H : Type} {enc : TypeId × Value → H} {W : World} {fuel : Nat} {cs : List Value} {x : DataW H × List MemPlace}
    (h : DataW.trod enc Try.prog W 0 (fun _ => true) true fuel 26 cs = some x)
    (ih : ∀ f, f < fuel → ∀ cs x, DataW.trod enc Try.prog W 0 (fun _ => true) true f 28 cs = some x → ∃ r t, cs = TR.cells r ∧ TV W r t) :
    ∃ (B : Option Addr) (m d : Nat) (ts : List Tm), cs = [.slice B m d] ∧ TVs W B m d ts := by
  rcases DataW.trod_slice Try.underlying26 h with ⟨h0, _⟩ | ⟨a, len, cap, elems, rest, n, hfu, hcs, _, hb, hl, hm, hlen, hel, _, _⟩
  · exact ⟨none, 0, 0, [], h0, TVs.nil W none 0 (Nat.zero_le _)⟩
  · rw [cells_term] at hel
    have each : ∀ i, i < len → ∃ y : TR × Tm, (∀ j, j < 7 → W.cell? ((a.add (i * 7)).add j) = (TR.cells y.1)[j]?) ∧ TV W y.1 y.2 := fun i hi => by
      have h1 := hel i hi
      rw [List.getElem?_eq_getElem (by omega)] at h1
      obtain ⟨cs', h2, h3⟩ := Option.bind_eq_some_iff.1 h1
      obtain ⟨r, t, rfl, htv⟩ := ih n (by omega) cs' _ h3
      obtain ⟨_, _, h4⟩ := World.cells?_some h2
      exact ⟨⟨r, t⟩, h4, htv⟩
    obtain ⟨F, hF⟩ := Go.Deep.choose_lt (α := TR × Tm) each
    refine ⟨some a, len, cap, (List.range len).map fun i => (F i).2, hcs, ⟨by simp, hl, hm, fun i => (F i).1, fun hn => ?_, fun i t e => ?_⟩⟩
    · have h0 := (hF 0 hn).1 0 (by omega)
      have h0' : W.cell? ((a.add (0 * 7)).add 0) = some (.int .i64 (F 0).1.k) := h0
      have hspot : a.spot = none := by
        have := World.cell?_spot h0'
        simpa [Addr.add] using this
      obtain ⟨b, o, sp⟩ := a
      simp only at hspot
      subst hspot
      refine ⟨b, o, rfl, ?_, fun i hi => ?_⟩
      · have := World.block_lt_of_cell? W _ h0'
        rw [add_none, add_none] at this
        exact this
      · have := (hF i hi).1
        rw [add_none] at this
        exact At7.of this
    · rw [List.getElem?_map] at e
      by_cases hi : i < len
      · rw [List.getElem?_range hi] at e
        simp only [Option.map_some, Option.some.injEq] at e
        rw [← e]
        exact (hF i hi).2
      · rw [List.getElem?_eq_none (by simp; omega)] at e
        simp at e

/-- A term that came in. -/
theorem open_tr {H : Type} {enc : TypeId × Value → H} {W : World} : ∀ (fuel : Nat) (cs : List Value) (x : DataW H × List MemPlace),
    DataW.trod enc Try.prog W 0 (fun _ => true) true fuel 28 cs = some x → ∃ r t, cs = TR.cells r ∧ TV W r t := by
  intro fuel
  induction fuel using Nat.strongRecOn with
  | ind fuel ih =>
    intro cs x h
    obtain ⟨xs, n, hfu, _, hcl, hxl, hf⟩ := DataW.trod_struct Try.underlying28 h
    rw [cells_term] at hcl
    obtain ⟨c0, c1, c2, c3, c4, c5, c6, rfl⟩ := list7 hcl
    have get : ∀ i, i < 6 → ∃ y, xs[i]? = some y := fun i hi => ⟨_, List.getElem?_eq_getElem (by rw [hxl]; exact hi)⟩
    have f0 : DataW.trod enc Try.prog W 0 (fun _ => true) true n 3 [c0] = xs[0]? := by simpa [cells_int'] using hf 0 _ rfl
    have f1 : DataW.trod enc Try.prog W 0 (fun _ => true) true n 3 [c1] = xs[1]? := by simpa [cells_int'] using hf 1 _ rfl
    have f2 : DataW.trod enc Try.prog W 0 (fun _ => true) true n 24 [c2, c3] = xs[2]? := by simpa [cells_num'] using hf 2 _ rfl
    have f3 : DataW.trod enc Try.prog W 0 (fun _ => true) true n 25 [c4] = xs[3]? := by simpa [cells_u64'] using hf 3 _ rfl
    have f4 : DataW.trod enc Try.prog W 0 (fun _ => true) true n 9 [c5] = xs[4]? := by simpa [cells_string'] using hf 4 _ rfl
    have f5 : DataW.trod enc Try.prog W 0 (fun _ => true) true n 26 [c6] = xs[5]? := by simpa [cells_terms'] using hf 5 _ rfl
    obtain ⟨y0, e0⟩ := get 0 (by omega)
    obtain ⟨y1, e1⟩ := get 1 (by omega)
    obtain ⟨y2, e2⟩ := get 2 (by omega)
    obtain ⟨y3, e3⟩ := get 3 (by omega)
    obtain ⟨y4, e4⟩ := get 4 (by omega)
    obtain ⟨y5, e5⟩ := get 5 (by omega)
    rw [e0] at f0; rw [e1] at f1; rw [e2] at f2; rw [e3] at f3; rw [e4] at f4; rw [e5] at f5
    obtain ⟨k, q0, _, wk⟩ := DataW.trod_int Try.underlying3 f0
    obtain ⟨nn, q1, _, wn⟩ := DataW.trod_int Try.underlying3 f1
    obtain ⟨u, q3, _, wu⟩ := DataW.trod_int Try.underlying25 f3
    obtain ⟨s, q4, _, ws⟩ := DataW.trod_string Try.underlying9 f4
    obtain ⟨zs, n', _, _, _, hzl, hz⟩ := DataW.trod_struct Try.underlying24 f2
    have g0 : DataW.trod enc Try.prog W 0 (fun _ => true) true n' 4 [c2] = zs[0]? := by simpa [cells_bool'] using hz 0 _ rfl
    have g1 : DataW.trod enc Try.prog W 0 (fun _ => true) true n' 22 [c3] = zs[1]? := by simpa [cells_limbs'] using hz 1 _ rfl
    have hzl2 : zs.length = 2 := hzl
    obtain ⟨z0, hz0⟩ : ∃ y, zs[0]? = some y := ⟨_, List.getElem?_eq_getElem (by omega)⟩
    obtain ⟨z1, hz1⟩ : ∃ y, zs[1]? = some y := ⟨_, List.getElem?_eq_getElem (by omega)⟩
    rw [hz0] at g0; rw [hz1] at g1
    obtain ⟨g, q2, _⟩ := DataW.trod_bool Try.underlying4 g0
    obtain ⟨A, ln, lc, l, q3', hlim, hlc⟩ := open_lim g1
    obtain ⟨B, m, d, ts, q5, hts⟩ := open_spread f5 (fun f hf cs x h => ih f (by omega) cs x h)
    simp only [List.cons.injEq, and_true] at q0 q1 q2 q3 q3' q4 q5
    subst q0 q1 q2 q3 q3' q4 q5
    have b0 := wf_i64 wk
    have b1 := wf_i64 wn
    have b3 := wf_u64 wu
    exact ⟨⟨k, nn, g, A, ln, lc, u, s, B, m, d⟩, _, rfl, TV.make ⟨b0.1, b0.2, b1.1, b1.2, b3.1, b3.2, hlim, hlc, ws, hts.md, hts.dd⟩ hts⟩

theorem open_term {H : Type} {enc : TypeId × Value → H} {W : World} {base : Nat} {v : Value} {d : DataW H} {p : List MemPlace}
    (hv : Value.okWide Try.prog W .any base 28 v) (h : DataW.Trod enc Try.prog W 0 (fun _ => true) true 28 v d p) :
    ∃ (r : TR) (t : Tm), v = .agg #[.int .i64 r.k, .int .i64 r.n, .bool r.g, .slice r.A r.ln r.lc, .int .u64 r.u, .string r.s, .slice r.B r.m r.d] ∧ TV W r t := by
  obtain ⟨cs, rfl, hsz⟩ := okWide_struct Try.underlying28 hv
  obtain ⟨fuel, hf⟩ := h
  obtain ⟨r, t, hc, htv⟩ := open_tr fuel _ _ hf
  refine ⟨r, t, ?_, htv⟩
  have : cs.toList = TR.cells r := by simpa [Value.cells] using hc
  congr 1
  apply Array.ext'
  rw [this]
  rfl
theorem open_terms {H : Type} {enc : TypeId × Value → H} {W : World} {v : Value} {d : DataW H} {p : List MemPlace}
    (hv : ∃ a n c, v = .slice a n c) (h : DataW.Trod enc Try.prog W 0 (fun _ => true) true 26 v d p) :
    ∃ (B : Option Addr) (m c : Nat) (ts : List Tm), v = .slice B m c ∧ TVs W B m c ts := by
  obtain ⟨a, n, c, rfl⟩ := hv
  obtain ⟨fuel, hf⟩ := h
  obtain ⟨B, m, d, ts, hc, hts⟩ := open_spread (fuel := fuel) (cs := [.slice a n c]) (by simpa [Value.cells] using hf) (fun f _ => open_tr f)
  simp only [List.cons.injEq, and_true] at hc
  exact ⟨B, m, d, ts, hc, hts⟩

end Go.Proofs.Ytbpihjcghmmacaa
