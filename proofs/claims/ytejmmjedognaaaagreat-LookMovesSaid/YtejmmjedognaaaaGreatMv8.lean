/-
  PACKAGE weigh: Weight, Above; the reference's Weight, Above.
  THE REFERENCE's Weight AND Above.
  TERMS THAT ARE MADE; WHAT EVERY PROGRAM ANSWERS THAT IS ONE: awake of beehivelaw3.
  TERMS WHOSE MEMORY LIES IN SOME BLOCKS: what keeps them when others are written.
  TERMS WITH THE FIELDS OF THEIR KIND ALONE: which may be, but for their weight. Plain mathematics, and term.mentioned.
-/
import Derived.Test.YtejmmjedognaaaaGreatMv7
namespace Go.Proofs.YtejmmjedognaaaaGreat
open Go.RowKit

/-- How heavy a term is told to be. -/
def Tm.cap (t : Tm) : Nat := min 301 t.wt
set_option maxRecDepth 100000 in
theorem Tm.cap_le (t : Tm) : 1 ≤ t.cap ∧ t.cap ≤ 301 := by
  have := Tm.wt_pos t
  unfold Tm.cap
  omega
/-- The sum of several. -/
def Tm.caps : List Tm → Nat
  | [] => 0
  | t :: r => t.cap + Tm.caps r
set_option maxRecDepth 100000 in
theorem Tm.caps_append (a b : List Tm) : Tm.caps (a ++ b) = Tm.caps a + Tm.caps b := by
  induction a with
  | nil => simp [Tm.caps]
  | cons t r ih => simp [Tm.caps, ih]; omega
set_option maxRecDepth 100000 in
theorem Tm.caps_take_succ {ts : List Tm} {i : Nat} {t : Tm} (h : ts[i]? = some t) : Tm.caps (ts.take (i + 1)) = Tm.caps (ts.take i) + t.cap := by
  rw [List.take_add_one, h, Tm.caps_append]
  simp [Tm.caps]
set_option maxRecDepth 100000 in
theorem Tm.caps_take_le (ts : List Tm) (i : Nat) : Tm.caps (ts.take i) ≤ Tm.caps ts := by
  have := Tm.caps_append (ts.take i) (ts.drop i)
  rw [List.take_append_drop] at this
  omega
set_option maxRecDepth 100000 in
theorem Tm.caps_le (ts : List Tm) : Tm.caps ts ≤ 301 * ts.length := by
  induction ts with
  | nil => simp [Tm.caps]
  | cons t r ih => have := Tm.cap_le t; simp [Tm.caps]; omega
set_option maxRecDepth 100000 in
theorem Tm.caps_all {ts : List Tm} {j : Nat} (h : ts.length ≤ j) : Tm.caps (ts.take j) = Tm.caps ts := by rw [List.take_of_length_le h]

set_option maxRecDepth 100000 in
set_option maxHeartbeats 1000000 in
theorem weight_any (w : World) (r : TR) (t : Tm) (h : TV w r t) (ho : t.Ok) :
    Calls Tryz.prog 83 #[.agg #[.int .i64 r.k, .int .i64 r.n, .bool r.g, .slice r.A r.ln r.lc, .int .u64 r.u, .string r.s, .slice r.B r.m r.d]] w fun e w' => e = .returned (.int .i64 (t.cap : Int)) ∧ Below w.heap.size w w' := by
  obtain ⟨R, hR⟩ : ∃ R, R = (t.cap : Int) := ⟨_, rfl⟩
  rw [← hR]
  have HR := Lib.hid hR
  clear hR
  have hb0 := (Below.refl w.heap.size w).alloc (Nat.le_refl _) (.cells #[.int .i64 r.k, .int .i64 r.n, .bool r.g, .slice r.A r.ln r.lc, .int .u64 r.u, .string r.s, .slice r.B r.m r.d] 40)
  have h2 := h.bel hb0
  go_enter Tryz.func83, Tryz.ntmps83
  go_wp2_with fail
  refine (room_any t _ r h2 ho 301 (by omega) (by omega)).mono ?_
  obtain ⟨q, hq⟩ : ∃ q, q = (301 : Int) - min 301 (t.wt : Int) := ⟨_, rfl⟩
  have hqb : 0 ≤ q ∧ q ≤ 301 := by omega
  have hfin := Lib.hid (show R = 301 - q by
    have h1 := HR.out
    unfold Tm.cap at h1
    omega)
  rw [← hq]
  clear hq
  rintro e w1 ⟨rfl, hb1⟩
  go_wp2_with fail
  go_ret
  exact ⟨by rw [hfin.out]; go_num, hb0.trans (hb1.mono (by simp))⟩

/-- Are terms together above a weight? -/
def aboveB (most : Int) (ts : List Tm) : Bool := decide (most < (Tm.caps ts : Int))

end Go.Proofs.YtejmmjedognaaaaGreat

namespace Go.Proofs.YtejmmjedognaaaaGreat
open Go.RowKit

set_option maxRecDepth 100000 in
theorem cap_big {t : Tm} (h : t.kind = 2) : t.cap = min 301 (1 + t.mag.length) := by
  cases t with
  | mk k n g l u s ks => unfold Tm.cap; rw [Tm.wt, if_pos (show k = 2 from h)]; rfl
set_option maxRecDepth 100000 in
theorem cap_bin {t : Tm} (h : t.kind = 9) : t.cap = min 301 (1 + t.bytes.size / 8) := by
  cases t with
  | mk k n g l u s ks =>
    have h' : k = 9 := h
    unfold Tm.cap; rw [Tm.wt, if_neg (by omega), if_pos h']; rfl
set_option maxRecDepth 100000 in
theorem cap_leaf {t : Tm} (h2 : t.kind ≠ 2) (h9 : t.kind ≠ 9) (h6 : t.kind ≠ 6) (h8 : t.kind ≠ 8) : t.cap = 1 := by
  unfold Tm.cap
  rw [wt_leaf h6 h8]
  unfold ownW
  rw [if_neg h2, if_neg h9]
  rfl
set_option maxRecDepth 100000 in
theorem caps_wts (ts : List Tm) : min 301 (Tm.caps ts) = min 301 (Tm.wts ts) := by
  induction ts with
  | nil => simp [Tm.caps, Tm.wts]
  | cons t r ih => simp only [Tm.caps, Tm.wts, Tm.cap]; omega
set_option maxRecDepth 100000 in
theorem cap_node {t : Tm} (h : t.kind = 6 ∨ t.kind = 8) : t.cap = min 301 (1 + Tm.caps t.args) := by
  have h1 := (wt_node h).1
  have h2 := caps_wts t.args
  unfold Tm.cap
  omega

set_option maxRecDepth 100000 in
set_option maxHeartbeats 4000000 in
theorem refWeight_any (t : Tm) : ∀ (w : World) (r : TR), TV w r t → t.Ok →
    Calls Tryz.prog 92 #[.agg #[.int .i64 r.k, .int .i64 r.n, .bool r.g, .slice r.A r.ln r.lc, .int .u64 r.u, .string r.s, .slice r.B r.m r.d]] w fun e w' => e = .returned (.int .i64 (t.cap : Int)) ∧ Below w.heap.size w w' := by
  induction t using Tm.ind with
  | h k n g l u s ks ih =>
    intro w r htv hok
    have IH := Lib.hid ih
    clear ih
    obtain ⟨t, ht⟩ : ∃ t, t = Tm.mk k n g l u s ks := ⟨_, rfl⟩
    have hks : t.args = ks := by rw [ht]; rfl
    rw [← hks] at IH
    rw [← ht] at htv hok ⊢
    clear hks ht
    have hl := Ok.limbs htv hok
    have hs := Ok.bytes htv hok
    obtain ⟨R, hR⟩ : ∃ R, R = (t.cap : Int) := ⟨_, rfl⟩
    rw [← hR]
    have HR := Lib.hid hR
    have hkk := htv.kind
    have hts := htv.args
    have hml : r.m ≤ maxLen := Nat.le_trans hts.md hts.dd
    have hml' : (r.m : Int) ≤ 9223372036854775807 := by unfold maxLen at hml; omega
    clear hR
    have hb0 := (Below.refl w.heap.size w).alloc (Nat.le_refl _) (.cells #[.int .i64 r.k, .int .i64 r.n, .bool r.g, .slice r.A r.ln r.lc, .int .u64 r.u, .string r.s, .slice r.B r.m r.d] 40)
    have hbx := Box7.new w r
    have htv0 := htv.bel hb0
    have hsz : w.heap.size < (w.alloc (.cells #[.int .i64 r.k, .int .i64 r.n, .bool r.g, .slice r.A r.ln r.lc, .int .u64 r.u, .string r.s, .slice r.B r.m r.d] 40)).heap.size := by simp
    have MG := Lib.hid htv.magLen
    have BY := Lib.hid htv.bytes
    by_cases h2 : r.k = 2
    · have e2 : (r.k == 2) = true := by rw [h2]; rfl
      have hfin := Lib.hid (show R = min 301 (1 + (r.ln : Int)) by
        have := cap_big (t := t) (by rw [hkk]; exact h2)
        rw [HR.out, this, MG.out]; omega)
      clear h2 hkk
      go_enter Tryz.func92, Tryz.ntmps92
      go_wp2
      all_goals
        go_ret
        exact ⟨by rw [hfin.out]; simp; try omega, hb0⟩
    have e2 : (r.k == 2) = false := by rw [beq_eq_false_iff_ne]; exact h2
    by_cases h9 : r.k = 9
    · have e9 : (r.k == 9) = true := by rw [h9]; rfl
      have hfin := Lib.hid (show R = min 301 (1 + (r.s.size / 8 : Nat)) by
        have := cap_bin (t := t) (by rw [hkk]; exact h9)
        rw [HR.out, this, BY.out])
      clear h9 h2 hkk
      go_enter Tryz.func92, Tryz.ntmps92
      go_wp2
      all_goals
        go_ret
        exact ⟨by rw [hfin.out]; simp; try omega, hb0⟩
    have e9 : (r.k == 9) = false := by rw [beq_eq_false_iff_ne]; exact h9
    by_cases hnode : r.k = 6 ∨ r.k = 8
    · have hw := Lib.hid (cap_node (t := t) (by rw [hkk]; exact hnode))
      have hcase : Hid (R = min 301 (1 + (Tm.caps t.args : Int))) := Lib.hid (by rw [HR.out, hw.out]; omega)
      clear HR hw htv hts hkk MG BY
      have hts1 := htv0.args
      go_enter Tryz.func92, Tryz.ntmps92
      have hn6 : ((r.k == 6) = true ∧ (r.k == 8) = false) ∨ ((r.k == 6) = false ∧ (r.k == 8) = true) := by
        rcases hnode with h6 | h6
        · exact .inl ⟨by rw [h6]; rfl, by rw [h6]; rfl⟩
        · exact .inr ⟨by rw [h6]; rfl, by rw [h6]; rfl⟩
      clear hnode h2 h9
      rcases hn6 with ⟨e6, e8⟩ | ⟨e6, e8⟩
      all_goals
        go_wp2_with fail
        generalize w.alloc (.cells #[.int .i64 r.k, .int .i64 r.n, .bool r.g, .slice r.A r.ln r.lc, .int .u64 r.u, .string r.s, .slice r.B r.m r.d] 40) = W at *
        go_loopw [3, 4] (fun x i w' => ∃ (j z : Nat), j ≤ r.m ∧ i = .int .i64 (j : Int) ∧ x = .int .i64 (z : Int) ∧ z ≤ 601 ∧ Hid (min 301 z = min 301 (1 + Tm.caps (t.args.take j))) ∧ Below W.heap.size W w') (fun _ i _ => r.m - (intOf i).toNat)
        case atStart => exact ⟨0, 1, Nat.zero_le _, rfl, rfl, by omega, Lib.hid (by simp [Tm.caps]), Below.refl _ _⟩
        case round =>
          obtain ⟨j, z, hj, rfl, rfl, hz1, hz, hb⟩ := hrel
          have hxx := (hbx.below hb).at
          have hx6' : wr.cell? ⟨w.heap.size, 6, none⟩ = some (.slice r.B r.m r.d) := hxx.c6
          by_cases hjm : j < r.m
          · have hd1 : decide ((j : Int) < (r.m : Int)) = true := by rw [decide_eq_true_iff]; omega
            by_cases hzp : (z : Int) ≤ 300
            · obtain ⟨b, o, r', t', e, hlt, h7, het, htv'⟩ := (hts1.below hb).get j hjm
              have hmem := List.mem_of_getElem? het
              have st := Lib.hid (Tm.caps_take_succ het)
              have d0 := h7.c0
              have d1 := h7.c1
              have d2 := h7.c2
              have d3 := h7.c3
              have d4 := h7.c4
              have d5 := h7.c5
              have d6 := h7.c6
              rw [e] at hx6'
              clear e
              go_wp2_with fail
              refine (IH.out t' hmem wr r' htv' (Ok.kids hok hmem)).mono ?_
              have hcap := Tm.cap_le t'
              generalize t'.cap = q at hcap st ⊢
              rintro e w2 ⟨rfl, hb2⟩
              go_wp2_with fail
              go_roundw
              case rel => exact ⟨j + 1, z + q, by omega, by go_num, by go_num, by omega, Lib.hid (by have h1 := st.out; have h2 := hz.out; omega), hb.trans (hb2.mono hb.size)⟩
              case measure => simp [intOf]; omega
            · have hfin := Lib.hid (show R = 301 by
                have h1 := hcase.out
                have h2 := hz.out
                have h3 := Tm.caps_take_le t.args j
                omega)
              have hd : decide ((z : Int) ≤ 300) = false := by rw [decide_eq_false_iff_not]; exact hzp
              have hmin : min (z : Int) 301 = 301 := by omega
              go_wp2
              all_goals
                go_ret
                exact ⟨by rw [hfin.out]; simp; try omega, hb0.trans (hb.mono (by have := hb0.size; omega))⟩
          · have hfin := Lib.hid (show R = min (z : Int) 301 by
              have h1 := hcase.out
              have h2 := hz.out
              rw [Tm.caps_all (by rw [hts1.len]; omega)] at h2
              omega)
            have hd1 : decide ((j : Int) < (r.m : Int)) = false := by rw [decide_eq_false_iff_not]; omega
            go_wp2
            all_goals
              go_ret
              exact ⟨by rw [hfin.out]; simp; try omega, hb0.trans (hb.mono (by have := hb0.size; omega))⟩
    · have e6 : (r.k == 6) = false := by rw [beq_eq_false_iff_ne]; omega
      have e8 : (r.k == 8) = false := by rw [beq_eq_false_iff_ne]; omega
      have hfin := Lib.hid (show R = 1 by
        rw [HR.out, cap_leaf (t := t) (by rw [hkk]; omega) (by rw [hkk]; omega) (by rw [hkk]; omega) (by rw [hkk]; omega)]; rfl)
      clear h2 h9 hnode hkk
      go_enter Tryz.func92, Tryz.ntmps92
      go_wp2
      all_goals
        go_ret
        exact ⟨by rw [hfin.out]; rfl, hb0⟩

end Go.Proofs.YtejmmjedognaaaaGreat

namespace Go.Proofs.YtejmmjedognaaaaGreat
open Go.RowKit

/-- A term's record that is made with no limbs. -/
@[reducible] def mkR (k n u : Int) (s : ByteArray) (B : Option Addr) (m d : Nat) : TR := ⟨k, n, false, none, 0, 0, u, s, B, m, d⟩
set_option maxRecDepth 100000 in
theorem TV.node {w : World} {k n u : Int} {s : ByteArray} {B : Option Addr} {m d : Nat} {ks : List Tm} (h : TVs w B m d ks)
    (k0 : -9223372036854775808 ≤ k) (k1 : k ≤ 9223372036854775807) (n0 : -9223372036854775808 ≤ n) (n1 : n ≤ 9223372036854775807) (u0 : 0 ≤ u) (u1 : u ≤ 18446744073709551615) (hs : s.size ≤ maxLen) :
    TV w (mkR k n u s B m d) (.mk k n false [] u s ks) :=
  TV.make (r := mkR k n u s B m d) ⟨k0, k1, n0, n1, u0, u1, Lim.nil w none 0, Nat.zero_le _, hs, h.md, h.dd⟩ h
set_option maxRecDepth 100000 in
theorem TV.leaf {w : World} {k n u : Int} {s : ByteArray}
    (k0 : -9223372036854775808 ≤ k) (k1 : k ≤ 9223372036854775807) (n0 : -9223372036854775808 ≤ n) (n1 : n ≤ 9223372036854775807) (u0 : 0 ≤ u) (u1 : u ≤ 18446744073709551615) (hs : s.size ≤ maxLen) :
    TV w (mkR k n u s none 0 0) (.mk k n false [] u s []) := TV.node (TVs.nil w none 0 (Nat.zero_le _)) k0 k1 n0 n1 u0 u1 hs
set_option maxRecDepth 100000 in
theorem maxLen_ge : 1000000 ≤ maxLen := by decide

set_option maxRecDepth 100000 in
/-- A row of two terms, newly made. -/
theorem TVs.two {w : World} {r r' : TR} {t t' : Tm} (h : TV w r t) (h' : TV w r' t') :
    TVs (w.alloc (.cells #[.int .i64 r.k, .int .i64 r.n, .bool r.g, .slice r.A r.ln r.lc, .int .u64 r.u, .string r.s, .slice r.B r.m r.d, .int .i64 r'.k, .int .i64 r'.n, .bool r'.g, .slice r'.A r'.ln r'.lc, .int .u64 r'.u, .string r'.s, .slice r'.B r'.m r'.d] 40)) (some ⟨w.heap.size, 0, none⟩) 2 2 [t, t'] := by
  refine ⟨rfl, Nat.le_refl _, by decide, fun i => if i = 0 then r else r', fun _ => ⟨w.heap.size, 0, rfl, by simp, fun i hi => ?_⟩, fun i x e => ?_⟩
  · have : i = 0 ∨ i = 1 := by omega
    rcases this with rfl | rfl
    all_goals
      refine At7.of fun j hj => ?_
      rw [add_none, World.cell?_alloc_at _ _ _ _ rfl]
      have : j = 0 ∨ j = 1 ∨ j = 2 ∨ j = 3 ∨ j = 4 ∨ j = 5 ∨ j = 6 := by omega
      rcases this with rfl | rfl | rfl | rfl | rfl | rfl | rfl <;> rfl
  · have hb := (Below.refl w.heap.size w).alloc (Nat.le_refl _) (.cells #[.int .i64 r.k, .int .i64 r.n, .bool r.g, .slice r.A r.ln r.lc, .int .u64 r.u, .string r.s, .slice r.B r.m r.d, .int .i64 r'.k, .int .i64 r'.n, .bool r'.g, .slice r'.A r'.ln r'.lc, .int .u64 r'.u, .string r'.s, .slice r'.B r'.m r'.d] 40)
    match i, e with
    | 0, e =>
      simp at e
      rw [← e]
      exact h.bel hb
    | 1, e =>
      simp at e
      rw [← e]
      exact h'.bel hb
    | i + 2, e => simp at e

/-- The small integer 0, the empty list, and [0, 0]. -/
def tInt0 : Tm := .mk 1 0 false [] 0 ⟨#[]⟩ []
def tNil : Tm := .mk 7 0 false [] 0 ⟨#[]⟩ []
def tTwo : Tm := .mk 8 0 false [] 0 ⟨#[]⟩ [tInt0, .mk 8 0 false [] 0 ⟨#[]⟩ [tInt0, tNil]]
def tEight : Tm := .mk 9 0 false [] 0 ⟨#[49, 50, 51, 52, 53, 54, 55, 56]⟩ []
set_option maxRecDepth 100000 in
theorem tTwo_cap : tTwo.cap = 5 := by simp [Tm.cap, tTwo, tInt0, tNil, Tm.wt, Tm.wts]
set_option maxRecDepth 100000 in
theorem tTwo_ok : tTwo.Ok := by simp [tTwo, tInt0, tNil, Tm.Ok, Tm.Oks, ByteArray.size]
set_option maxRecDepth 100000 in
theorem tEight_cap : tEight.cap = 2 := by simp [Tm.cap, tEight, Tm.wt, ByteArray.size]
set_option maxRecDepth 100000 in
theorem tEight_ok : tEight.Ok := by simp [tEight, Tm.Ok, Tm.Oks, ByteArray.size]
set_option maxRecDepth 100000 in
theorem above_one (most : Int) (t : Tm) : aboveB most [t] = decide (most < (t.cap : Int)) := by
  simp only [aboveB, Tm.caps, Nat.add_zero]
  rfl

end Go.Proofs.YtejmmjedognaaaaGreat

namespace Go.Proofs.YtejmmjedognaaaaGreat
open Go.RowKit

set_option maxRecDepth 100000 in
theorem cell_blk {w w' : World} {b o : Nat} (h : w'.heap[b]? = w.heap[b]?) : w'.cell? ⟨b, o, none⟩ = w.cell? ⟨b, o, none⟩ := World.cell?_of_block (w := w) (a := ⟨b, o, none⟩) h
set_option maxRecDepth 100000 in
theorem At7.keep {w w' : World} {b o : Nat} {r : TR} (h : At7 w b o r) (e : w'.heap[b]? = w.heap[b]?) : At7 w' b o r :=
  ⟨(cell_blk e).trans h.c0, (cell_blk e).trans h.c1, (cell_blk e).trans h.c2, (cell_blk e).trans h.c3, (cell_blk e).trans h.c4, (cell_blk e).trans h.c5, (cell_blk e).trans h.c6⟩

/-- The record's own blocks are some of these. -/
structure OnS (S : Nat → Prop) (r : TR) : Prop where
  lim : 0 < r.ln → ∀ a, r.A = some a → S a.block
  arg : 0 < r.m → ∀ a, r.B = some a → S a.block
/-- The record stands for the term, and lies in these blocks. -/
inductive TVS (S : Nat → Prop) (w : World) : TR → Tm → Prop
  | mk (r : TR) (l : List Nat) (ks : List Tm) (V : Nat → TR) (hf : Flat w r l) (hm : ks.length = r.m) (hs : Spread w r.B r.m V) (on : OnS S r)
    (hk : ∀ i t, ks[i]? = some t → TVS S w (V i) t) : TVS S w r (.mk r.k r.n r.g l r.u r.s ks)
/-- The slice stands for the terms, and lies in these blocks. -/
structure TVSs (S : Nat → Prop) (w : World) (B : Option Addr) (m d : Nat) (ts : List Tm) : Prop where
  len : ts.length = m
  md : m ≤ d
  dd : d ≤ maxLen
  on : 0 < m → ∀ a, B = some a → S a.block
  el : ∃ V : Nat → TR, Spread w B m V ∧ ∀ i t, ts[i]? = some t → TVS S w (V i) t

set_option maxRecDepth 100000 in
theorem TVS.tv {S : Nat → Prop} {w : World} {r : TR} {t : Tm} (h : TVS S w r t) : TV w r t := by
  induction h with
  | mk r l ks V hf hm hs on hk ih => exact .mk r l ks V hf hm hs ih
set_option maxRecDepth 100000 in
theorem TVSs.tvs {S : Nat → Prop} {w : World} {B : Option Addr} {m d : Nat} {ts : List Tm} (h : TVSs S w B m d ts) : TVs w B m d ts := by
  obtain ⟨V, h1, h2⟩ := h.el
  exact ⟨h.len, h.md, h.dd, V, h1, fun i t e => (h2 i t e).tv⟩
set_option maxRecDepth 100000 in
theorem TVS.mono {S S' : Nat → Prop} {w : World} {r : TR} {t : Tm} (h : TVS S w r t) (hS : ∀ b, S b → S' b) : TVS S' w r t := by
  induction h with
  | mk r l ks V hf hm hs on hk ih => exact .mk r l ks V hf hm hs ⟨fun h a e => hS _ (on.lim h a e), fun h a e => hS _ (on.arg h a e)⟩ ih
set_option maxRecDepth 100000 in
theorem TVSs.mono {S S' : Nat → Prop} {w : World} {B : Option Addr} {m d : Nat} {ts : List Tm} (h : TVSs S w B m d ts) (hS : ∀ b, S b → S' b) : TVSs S' w B m d ts := by
  obtain ⟨V, h1, h2⟩ := h.el
  exact ⟨h.len, h.md, h.dd, fun hm a e => hS _ (h.on hm a e), V, h1, fun i t e => (h2 i t e).mono hS⟩
set_option maxRecDepth 100000 in
theorem Lim.blk {w : World} {A : Option Addr} {n c : Nat} {l : List Nat} (h : Lim w A n c l) (hn : 0 < n) (a : Addr) (e : A = some a) : a.block < w.heap.size := by
  obtain ⟨b, o, e', hlt, _⟩ := h.2.2.2 hn
  rw [e'] at e
  cases e
  exact hlt
set_option maxRecDepth 100000 in
theorem Spread.blk {w : World} {B : Option Addr} {m : Nat} {V : Nat → TR} (h : Spread w B m V) (hm : 0 < m) (a : Addr) (e : B = some a) : a.block < w.heap.size := by
  obtain ⟨b, o, e', hlt, _⟩ := h hm
  rw [e'] at e
  cases e
  exact hlt
set_option maxRecDepth 100000 in
/-- A term lies in the blocks that are there. -/
theorem TV.tvS {w : World} {r : TR} {t : Tm} (h : TV w r t) : TVS (· < w.heap.size) w r t := by
  induction h with
  | mk r l ks V hf hm hs hk ih => exact .mk r l ks V hf hm hs ⟨fun h a e => hf.lim.blk h a e, fun h a e => hs.blk h a e⟩ ih
set_option maxRecDepth 100000 in
theorem TVs.tvS {w : World} {B : Option Addr} {m d : Nat} {ts : List Tm} (h : TVs w B m d ts) : TVSs (· < w.heap.size) w B m d ts := by
  obtain ⟨V, h1, h2⟩ := h.el
  exact ⟨h.len, h.md, h.dd, fun hm a e => h1.blk hm a e, V, h1, fun i t e => (h2 i t e).tvS⟩

/-- The blocks of S are as they were, and none is gone. -/
structure Keeps (S : Nat → Prop) (w w' : World) : Prop where
  size : w.heap.size ≤ w'.heap.size
  block : ∀ b, S b → b < w.heap.size → w'.heap[b]? = w.heap[b]?
set_option maxRecDepth 100000 in
theorem Keeps.refl (S : Nat → Prop) (w : World) : Keeps S w w := ⟨Nat.le_refl _, fun _ _ _ => rfl⟩
set_option maxRecDepth 100000 in
theorem Keeps.trans {S : Nat → Prop} {a b c : World} (h : Keeps S a b) (k : Keeps S b c) : Keeps S a c :=
  ⟨Nat.le_trans h.size k.size, fun i hi hl => (k.block i hi (Nat.lt_of_lt_of_le hl h.size)).trans (h.block i hi hl)⟩
set_option maxRecDepth 100000 in
theorem Keeps.mono {S S' : Nat → Prop} {a b : World} (h : Keeps S a b) (hS : ∀ b, S' b → S b) : Keeps S' a b := ⟨h.size, fun i hi hl => h.block i (hS i hi) hl⟩
set_option maxRecDepth 100000 in
theorem Keeps.alloc {S : Nat → Prop} {a w : World} (h : Keeps S a w) (o : Obj) : Keeps S a (w.alloc o) :=
  h.trans ⟨by simp, fun b _ hl => Below.heap_alloc w o b hl⟩
set_option maxRecDepth 100000 in
theorem Keeps.setCell {S : Nat → Prop} {a w : World} (h : Keeps S a w) {p : Addr} (hp : ¬ S p.block) (u : Value) : Keeps S a (w.setCell p u) :=
  h.trans ⟨by simp [World.setCell], fun b hb _ => Below.heap_setCell w p u b (fun e => hp (e ▸ hb))⟩
set_option maxRecDepth 100000 in
theorem Keeps.drew {S : Nat → Prop} {a w : World} (h : Keeps S a w) : Keeps S a w.drew := ⟨h.size, h.block⟩
set_option maxRecDepth 100000 in
theorem _root_.Go.RowKit.Below.keeps {w w' : World} (h : Below w.heap.size w w') (S : Nat → Prop) : Keeps S w w' := ⟨h.size, fun b _ hl => h.block b hl⟩

set_option maxRecDepth 100000 in
theorem Lim.keep {S : Nat → Prop} {w w' : World} {A : Option Addr} {n c : Nat} {l : List Nat} (h : Lim w A n c l) (hS : 0 < n → ∀ a, A = some a → S a.block) (k : Keeps S w w') : Lim w' A n c l := by
  refine ⟨h.1, h.2.1, h.2.2.1, fun hn => ?_⟩
  obtain ⟨b, o, e, hlt, hc⟩ := h.2.2.2 hn
  exact ⟨b, o, e, Nat.lt_of_lt_of_le hlt k.size, fun j hj => (cell_blk (k.block b (hS hn _ e) hlt)).trans (hc j hj)⟩
set_option maxRecDepth 100000 in
theorem Spread.keep {S : Nat → Prop} {w w' : World} {B : Option Addr} {m : Nat} {V : Nat → TR} (h : Spread w B m V) (hS : 0 < m → ∀ a, B = some a → S a.block) (k : Keeps S w w') : Spread w' B m V := fun hm => by
  obtain ⟨b, o, e, hlt, hc⟩ := h hm
  exact ⟨b, o, e, Nat.lt_of_lt_of_le hlt k.size, fun i hi => (hc i hi).keep (k.block b (hS hm _ e) hlt)⟩
set_option maxRecDepth 100000 in
theorem TVS.keep {S : Nat → Prop} {w w' : World} {r : TR} {t : Tm} (h : TVS S w r t) (k : Keeps S w w') : TVS S w' r t := by
  induction h with
  | mk r l ks V hf hm hs on hk ih => exact .mk r l ks V ⟨hf.k0, hf.k1, hf.n0, hf.n1, hf.u0, hf.u1, hf.lim.keep on.lim k, hf.cap, hf.str, hf.md, hf.dd⟩ hm (hs.keep on.arg k) on ih
set_option maxRecDepth 100000 in
theorem TVSs.keep {S : Nat → Prop} {w w' : World} {B : Option Addr} {m d : Nat} {ts : List Tm} (h : TVSs S w B m d ts) (k : Keeps S w w') : TVSs S w' B m d ts := by
  obtain ⟨V, h1, h2⟩ := h.el
  exact ⟨h.len, h.md, h.dd, h.on, V, h1.keep h.on k, fun i t e => (h2 i t e).keep k⟩
set_option maxRecDepth 100000 in
theorem TVSs.nil (S : Nat → Prop) (w : World) (B : Option Addr) (d : Nat) (hd : d ≤ maxLen) : TVSs S w B 0 d [] :=
  ⟨rfl, Nat.zero_le _, hd, fun h => absurd h (by omega), fun _ => default, fun h => absurd h (by omega), fun i t e => by simp at e⟩
set_option maxRecDepth 100000 in
theorem TVS.node {S : Nat → Prop} {w : World} {k n u : Int} {s : ByteArray} {B : Option Addr} {m d : Nat} {ks : List Tm} (h : TVSs S w B m d ks)
    (k0 : -9223372036854775808 ≤ k) (k1 : k ≤ 9223372036854775807) (n0 : -9223372036854775808 ≤ n) (n1 : n ≤ 9223372036854775807) (u0 : 0 ≤ u) (u1 : u ≤ 18446744073709551615) (hs : s.size ≤ maxLen) :
    TVS S w (mkR k n u s B m d) (.mk k n false [] u s ks) := by
  obtain ⟨V, h1, h2⟩ := h.el
  exact .mk (mkR k n u s B m d) [] ks V ⟨k0, k1, n0, n1, u0, u1, Lim.nil w none 0, Nat.zero_le _, hs, h.md, h.dd⟩ h.len h1 ⟨fun h => absurd h (by simp), fun hm a e => h.on hm a e⟩ h2
set_option maxRecDepth 100000 in
/-- A row of two terms, newly made. -/
theorem TVSs.two {S : Nat → Prop} {w : World} {r r' : TR} {t t' : Tm} (h : TVS S w r t) (h' : TVS S w r' t') (hn : S w.heap.size) :
    TVSs S (w.alloc (.cells #[.int .i64 r.k, .int .i64 r.n, .bool r.g, .slice r.A r.ln r.lc, .int .u64 r.u, .string r.s, .slice r.B r.m r.d, .int .i64 r'.k, .int .i64 r'.n, .bool r'.g, .slice r'.A r'.ln r'.lc, .int .u64 r'.u, .string r'.s, .slice r'.B r'.m r'.d] 40)) (some ⟨w.heap.size, 0, none⟩) 2 2 [t, t'] := by
  have H := (TVs.two h.tv h'.tv)
  refine ⟨rfl, Nat.le_refl _, by decide, fun _ a e => by cases e; exact hn, fun i => if i = 0 then r else r', fun _ => ⟨w.heap.size, 0, rfl, by simp, fun i hi => ?_⟩, fun i x e => ?_⟩
  · have : i = 0 ∨ i = 1 := by omega
    rcases this with rfl | rfl
    all_goals
      refine At7.of fun j hj => ?_
      rw [add_none, World.cell?_alloc_at _ _ _ _ rfl]
      have : j = 0 ∨ j = 1 ∨ j = 2 ∨ j = 3 ∨ j = 4 ∨ j = 5 ∨ j = 6 := by omega
      rcases this with rfl | rfl | rfl | rfl | rfl | rfl | rfl <;> rfl
  · have k := (Keeps.refl S w).alloc (.cells #[.int .i64 r.k, .int .i64 r.n, .bool r.g, .slice r.A r.ln r.lc, .int .u64 r.u, .string r.s, .slice r.B r.m r.d, .int .i64 r'.k, .int .i64 r'.n, .bool r'.g, .slice r'.A r'.ln r'.lc, .int .u64 r'.u, .string r'.s, .slice r'.B r'.m r'.d] 40)
    match i, e with
    | 0, e =>
      simp at e
      rw [← e]
      exact h.keep k
    | 1, e =>
      simp at e
      rw [← e]
      exact h'.keep k
    | i + 2, e => simp at e

/-- A record is written over block g. -/
@[reducible] def put7 (w : World) (g : Nat) (r : TR) : World :=
  ((((((w.setCell ⟨g, 0, none⟩ (.int .i64 r.k)).setCell ⟨g, 1, none⟩ (.int .i64 r.n)).setCell ⟨g, 2, none⟩ (.bool r.g)).setCell ⟨g, 3, none⟩ (.slice r.A r.ln r.lc)).setCell ⟨g, 4, none⟩ (.int .u64 r.u)).setCell ⟨g, 5, none⟩ (.string r.s)).setCell ⟨g, 6, none⟩ (.slice r.B r.m r.d)
set_option maxRecDepth 100000 in
theorem put7_size (w : World) (g : Nat) (r : TR) : (put7 w g r).heap.size = w.heap.size := by simp [put7, World.setCell]
set_option maxRecDepth 100000 in
theorem Box7.put {w : World} {g : Nat} {r : TR} (h : Box7 w g r) (r' : TR) : Box7 (put7 w g r') g r' := by
  unfold Box7 at h ⊢
  simp [World.setCell, Array.getElem?_modify, h]
set_option maxRecDepth 100000 in
theorem Box7.frozen {w : World} {g : Nat} {r : TR} (h : Box7 w g r) (i : Nat) : w.frozen? ⟨g, i, none⟩ = false := by unfold Box7 at h; simp [World.frozen?, h]
set_option maxRecDepth 100000 in
theorem Keeps.put7 {S : Nat → Prop} {a w : World} (h : Keeps S a w) {g : Nat} (hp : ¬ S g) (r : TR) : Keeps S a (put7 w g r) :=
  ((((((h.setCell (p := ⟨g, 0, none⟩) hp _).setCell (p := ⟨g, 1, none⟩) hp _).setCell (p := ⟨g, 2, none⟩) hp _).setCell (p := ⟨g, 3, none⟩) hp _).setCell (p := ⟨g, 4, none⟩) hp _).setCell (p := ⟨g, 5, none⟩) hp _).setCell (p := ⟨g, 6, none⟩) hp _
set_option maxRecDepth 100000 in
theorem _root_.Go.RowKit.Below.put7 {B : Nat} {a w : World} (h : Below B a w) {g : Nat} (hp : B ≤ g) (r : TR) : Below B a (put7 w g r) :=
  ((((((h.setCell (p := ⟨g, 0, none⟩) hp _).setCell (p := ⟨g, 1, none⟩) hp _).setCell (p := ⟨g, 2, none⟩) hp _).setCell (p := ⟨g, 3, none⟩) hp _).setCell (p := ⟨g, 4, none⟩) hp _).setCell (p := ⟨g, 5, none⟩) hp _).setCell (p := ⟨g, 6, none⟩) hp _
end Go.Proofs.YtejmmjedognaaaaGreat

namespace Go.Proofs.YtejmmjedognaaaaGreat
open Go.RowKit

/-- The record with the fields of its kind alone. -/
def TR.ment (r : TR) : TR :=
  if r.k = 1 ∨ r.k = 4 ∨ r.k = 5 then ⟨r.k, r.n, false, none, 0, 0, 0, ⟨#[]⟩, none, 0, 0⟩
  else if r.k = 2 then ⟨r.k, 0, r.g, r.A, r.ln, r.lc, 0, ⟨#[]⟩, none, 0, 0⟩
  else if r.k = 3 then ⟨r.k, 0, false, none, 0, 0, r.u, ⟨#[]⟩, none, 0, 0⟩
  else if r.k = 6 ∨ r.k = 8 then ⟨r.k, 0, false, none, 0, 0, 0, ⟨#[]⟩, r.B, r.m, r.d⟩
  else if r.k = 7 then ⟨r.k, 0, false, none, 0, 0, 0, ⟨#[]⟩, none, 0, 0⟩
  else if r.k = 9 then ⟨r.k, 0, false, none, 0, 0, 0, r.s, none, 0, 0⟩
  else ⟨0, 0, false, none, 0, 0, 0, ⟨#[]⟩, none, 0, 0⟩
/-- The term with the fields of its kind alone. -/
def Tm.ment : Tm → Tm
  | .mk k n g l u s ks =>
    if k = 1 ∨ k = 4 ∨ k = 5 then .mk k n false [] 0 ⟨#[]⟩ []
    else if k = 2 then .mk k 0 g l 0 ⟨#[]⟩ []
    else if k = 3 then .mk k 0 false [] u ⟨#[]⟩ []
    else if k = 6 ∨ k = 8 then .mk k 0 false [] 0 ⟨#[]⟩ ks
    else if k = 7 then .mk k 0 false [] 0 ⟨#[]⟩ []
    else if k = 9 then .mk k 0 false [] 0 s []
    else .mk 0 0 false [] 0 ⟨#[]⟩ []
set_option maxRecDepth 100000 in
theorem TV.mk' {w : World} {k n : Int} {g : Bool} {A : Option Addr} {ln lc : Nat} {u : Int} {s : ByteArray} {B : Option Addr} {m d : Nat} {l : List Nat} {ks : List Tm}
    (k0 : -9223372036854775808 ≤ k) (k1 : k ≤ 9223372036854775807) (n0 : -9223372036854775808 ≤ n) (n1 : n ≤ 9223372036854775807) (u0 : 0 ≤ u) (u1 : u ≤ 18446744073709551615)
    (lim : Lim w A ln lc l) (cap : lc ≤ maxLen) (str : s.size ≤ maxLen) (h : TVs w B m d ks) : TV w ⟨k, n, g, A, ln, lc, u, s, B, m, d⟩ (.mk k n g l u s ks) :=
  TV.make (r := ⟨k, n, g, A, ln, lc, u, s, B, m, d⟩) ⟨k0, k1, n0, n1, u0, u1, lim, cap, str, h.md, h.dd⟩ h
set_option maxRecDepth 100000 in
theorem TV.ment {w : World} {r : TR} {t : Tm} (h : TV w r t) : TV w r.ment t.ment := by
  cases h with
  | mk _ l ks V hf hm hs hk =>
    have hts : TVs w r.B r.m r.d ks := ⟨hm, hf.md, hf.dd, V, hs, hk⟩
    have z : (0 : Nat) ≤ maxLen := Nat.zero_le _
    have N := TVs.nil w none 0 z
    have L := Lim.nil w none 0
    have E : (⟨#[]⟩ : ByteArray).size ≤ maxLen := z
    have i0 : (-9223372036854775808 : Int) ≤ 0 := by omega
    have i1 : (0 : Int) ≤ 9223372036854775807 := by omega
    have u0 : (0 : Int) ≤ 0 := by omega
    have u1 : (0 : Int) ≤ 18446744073709551615 := by omega
    simp only [TR.ment, Tm.ment]
    by_cases h0 : r.k = 1 ∨ r.k = 4 ∨ r.k = 5
    · rw [if_pos h0, if_pos h0]
      exact TV.mk' hf.k0 hf.k1 hf.n0 hf.n1 u0 u1 L z E N
    rw [if_neg h0, if_neg h0]
    by_cases h1 : r.k = 2
    · rw [if_pos h1, if_pos h1]
      exact TV.mk' hf.k0 hf.k1 i0 i1 u0 u1 hf.lim hf.cap E N
    rw [if_neg h1, if_neg h1]
    by_cases h2 : r.k = 3
    · rw [if_pos h2, if_pos h2]
      exact TV.mk' hf.k0 hf.k1 i0 i1 hf.u0 hf.u1 L z E N
    rw [if_neg h2, if_neg h2]
    by_cases h3 : r.k = 6 ∨ r.k = 8
    · rw [if_pos h3, if_pos h3]
      exact TV.mk' hf.k0 hf.k1 i0 i1 u0 u1 L z E hts
    rw [if_neg h3, if_neg h3]
    by_cases h4 : r.k = 7
    · rw [if_pos h4, if_pos h4]
      exact TV.mk' hf.k0 hf.k1 i0 i1 u0 u1 L z E N
    rw [if_neg h4, if_neg h4]
    by_cases h5 : r.k = 9
    · rw [if_pos h5, if_pos h5]
      exact TV.mk' hf.k0 hf.k1 i0 i1 u0 u1 L z hf.str N
    rw [if_neg h5, if_neg h5]
    exact TV.mk' i0 i1 i0 i1 u0 u1 L z E N

/-- A record that is all noughts. -/
@[reducible] def zeroR : TR := ⟨0, 0, false, none, 0, 0, 0, ⟨#[]⟩, none, 0, 0⟩

set_option maxRecDepth 100000 in
set_option maxHeartbeats 4000000 in
theorem ment_any (w : World) (r : TR) :
    Calls Tryz.prog 156 #[.agg #[.int .i64 r.k, .int .i64 r.n, .bool r.g, .slice r.A r.ln r.lc, .int .u64 r.u, .string r.s, .slice r.B r.m r.d]] w fun e w' => e = .returned (.agg #[.int .i64 r.ment.k, .int .i64 r.ment.n, .bool r.ment.g, .slice r.ment.A r.ment.ln r.ment.lc, .int .u64 r.ment.u, .string r.ment.s, .slice r.ment.B r.ment.m r.ment.d]) ∧ Below w.heap.size w w' := by
  obtain ⟨V, hV⟩ : ∃ V, V = Ending.returned (.agg #[.int .i64 r.ment.k, .int .i64 r.ment.n, .bool r.ment.g, .slice r.ment.A r.ment.ln r.ment.lc, .int .u64 r.ment.u, .string r.ment.s, .slice r.ment.B r.ment.m r.ment.d]) := ⟨_, rfl⟩
  rw [← hV]
  have HV := Lib.hid hV
  clear hV
  go_enter Tryz.func156, Tryz.ntmps156
  go_wp2
  all_goals
    refine bodyPost_ret (v := .agg #[.int .i64 r.ment.k, .int .i64 r.ment.n, .bool r.ment.g, .slice r.ment.A r.ment.ln r.ment.lc, .int .u64 r.ment.u, .string r.ment.s, .slice r.ment.B r.ment.m r.ment.d]) ?_ rfl ⟨HV.out.symm, ((Below.refl _ _).alloc (Nat.le_refl _) _).alloc (by simp) _⟩
    simp_all [results, Tryz.results156, go_sem, TR.ment]
end Go.Proofs.YtejmmjedognaaaaGreat
