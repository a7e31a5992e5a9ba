/-
  TERMS WHOSE MEMORY LIES IN SOME BLOCKS: what keeps them when others are written.
-/
import Derived.Test.YtbpihjcghmmacaaTmG
namespace Go.Proofs.Ytbpihjcghmmacaa
open Go.RowKit

theorem cell_blk {w w' : World} {b o : Nat} (h : w'.heap[b]? = w.heap[b]?) : w'.cell? ⟨b, o, none⟩ = w.cell? ⟨b, o, none⟩ := World.cell?_of_block (w := w) (a := ⟨b, o, none⟩) h
theorem At7.keep {w w' : World} {b o : Nat} {r : TR} (h : At7 w b o r) (e : w'.heap[b]? = w.heap[b]?) : At7 w' b o r :=
  ⟨(cell_blk e).trans h.c0, (cell_blk e).trans h.c1, (cell_blk e).trans h.c2, (cell_blk e).trans h.c3, (cell_blk e).trans h.c4, (cell_blk e).trans h.c5, (cell_blk e).trans h.c6⟩

/-- The record's own blocks are some of these. -/
structure OnS (S : Nat → Prop) (r : TR) : Prop where
  lim : 0 < r.ln → ∀ a, r.A = some a → S a.block
  arg : 0 < r.m → ∀ a, r.B = some a → S a.block
/-- The record stands for the term, and lies in these blocks. -/
inductive TVS (S : Nat → Prop) (w : World) : TR → Tm → Prop
  | mk (r : TR) (l : List Nat) (ks : List Tm) (V : Nat → TR) (hf : Flat w r l) (hm : ks.length = r.m) (hs : Spread w r.B r.m V) (on : OnS S r)
    (hk : ∀ i t, ks[i]? = some t → TVS S w (V i) t) : TVS S w r (.mk r.k r.n r.g l r.u r.s ks)
/-- The slice stands for the terms, and lies in these blocks. -/
structure TVSs (S : Nat → Prop) (w : World) (B : Option Addr) (m d : Nat) (ts : List Tm) : Prop where
  len : ts.length = m
  md : m ≤ d
  dd : d ≤ maxLen
  on : 0 < m → ∀ a, B = some a → S a.block
  el : ∃ V : Nat → TR, Spread w B m V ∧ ∀ i t, ts[i]? = some t → TVS S w (V i) t

theorem TVS.tv {S : Nat → Prop} {w : World} {r : TR} {t : Tm} (h : TVS S w r t) : TV w r t := by
  induction h with
  | mk r l ks V hf hm hs on hk ih => exact .mk r l ks V hf hm hs ih
theorem TVSs.tvs {S : Nat → Prop} {w : World} {B : Option Addr} {m d : Nat} {ts : List Tm} (h : TVSs S w B m d ts) : TVs w B m d ts := by
  obtain ⟨V, h1, h2⟩ := h.el
  exact ⟨h.len, h.md, h.dd, V, h1, fun i t e => (h2 i t e).tv⟩
theorem TVS.mono {S S' : Nat → Prop} {w : World} {r : TR} {t : Tm} (h : TVS S w r t) (hS : ∀ b, S b → S' b) : TVS S' w r t := by
  induction h with
  | mk r l ks V hf hm hs on hk ih => exact .mk r l ks V hf hm hs ⟨fun h a e => hS _ (on.lim h a e), fun h a e => hS _ (on.arg h a e)⟩ ih
theorem TVSs.mono {S S' : Nat → Prop} {w : World} {B : Option Addr} {m d : Nat} {ts : List Tm} (h : TVSs S w B m d ts) (hS : ∀ b, S b → S' b) : TVSs S' w B m d ts := by
  obtain ⟨V, h1, h2⟩ := h.el
  exact ⟨h.len, h.md, h.dd, fun hm a e => hS _ (h.on hm a e), V, h1, fun i t e => (h2 i t e).mono hS⟩
theorem Lim.blk {w : World} {A : Option Addr} {n c : Nat} {l : List Nat} (h : Lim w A n c l) (hn : 0 < n) (a : Addr) (e : A = some a) : a.block < w.heap.size := by
  obtain ⟨b, o, e', hlt, _⟩ := h.2.2.2 hn
  rw [e'] at e
  cases e
  exact hlt
theorem Spread.blk {w : World} {B : Option Addr} {m : Nat} {V : Nat → TR} (h : Spread w B m V) (hm : 0 < m) (a : Addr) (e : B = some a) : a.block < w.heap.size := by
  obtain ⟨b, o, e', hlt, _⟩ := h hm
  rw [e'] at e
  cases e
  exact hlt
/-- A term lies in the blocks that are there. -/
theorem TV.tvS {w : World} {r : TR} {t : Tm} (h : TV w r t) : TVS (· < w.heap.size) w r t := by
  induction h with
  | mk r l ks V hf hm hs hk ih => exact .mk r l ks V hf hm hs ⟨fun h a e => hf.lim.blk h a e, fun h a e => hs.blk h a e⟩ ih
theorem TVs.tvS {w : World} {B : Option Addr} {m d : Nat} {ts : List Tm} (h : TVs w B m d ts) : TVSs (· < w.heap.size) w B m d ts := by
  obtain ⟨V, h1, h2⟩ := h.el
  exact ⟨h.len, h.md, h.dd, fun hm a e => h1.blk hm a e, V, h1, fun i t e => (h2 i t e).tvS⟩

/-- The blocks of S are as they were, and none is gone. -/
structure Keeps (S : Nat → Prop) (w w' : World) : Prop where
  size : w.heap.size ≤ w'.heap.size
  block : ∀ b, S b → b < w.heap.size → w'.heap[b]? = w.heap[b]?
theorem Keeps.refl (S : Nat → Prop) (w : World) : Keeps S w w := ⟨Nat.le_refl _, fun _ _ _ => rfl⟩
theorem Keeps.trans {S : Nat → Prop} {a b c : World} (h : Keeps S a b) (k : Keeps S b c) : Keeps S a c :=
  ⟨Nat.le_trans h.size k.size, fun i hi hl => (k.block i hi (Nat.lt_of_lt_of_le hl h.size)).trans (h.block i hi hl)⟩
theorem Keeps.mono {S S' : Nat → Prop} {a b : World} (h : Keeps S a b) (hS : ∀ b, S' b → S b) : Keeps S' a b := ⟨h.size, fun i hi hl => h.block i (hS i hi) hl⟩
theorem Keeps.alloc {S : Nat → Prop} {a w : World} (h : Keeps S a w) (o : Obj) : Keeps S a (w.alloc o) :=
  h.trans ⟨by simp, fun b _ hl => Below.heap_alloc w o b hl⟩
theorem Keeps.setCell {S : Nat → Prop} {a w : World} (h : Keeps S a w) {p : Addr} (hp : ¬ S p.block) (u : Value) : Keeps S a (w.setCell p u) :=
  h.trans ⟨by simp [World.setCell], fun b hb _ => Below.heap_setCell w p u b (fun e => hp (e ▸ hb))⟩
theorem Keeps.drew {S : Nat → Prop} {a w : World} (h : Keeps S a w) : Keeps S a w.drew := ⟨h.size, h.block⟩
theorem _root_.Go.RowKit.Below.keeps {w w' : World} (h : Below w.heap.size w w') (S : Nat → Prop) : Keeps S w w' := ⟨h.size, fun b _ hl => h.block b hl⟩

theorem Lim.keep {S : Nat → Prop} {w w' : World} {A : Option Addr} {n c : Nat} {l : List Nat} (h : Lim w A n c l) (hS : 0 < n → ∀ a, A = some a → S a.block) (k : Keeps S w w') : Lim w' A n c l := by
  refine ⟨h.1, h.2.1, h.2.2.1, fun hn => ?_⟩
  obtain ⟨b, o, e, hlt, hc⟩ := h.2.2.2 hn
  exact ⟨b, o, e, Nat.lt_of_lt_of_le hlt k.size, fun j hj => (cell_blk (k.block b (hS hn _ e) hlt)).trans (hc j hj)⟩
theorem Spread.keep {S : Nat → Prop} {w w' : World} {B : Option Addr} {m : Nat} {V : Nat → TR} (h : Spread w B m V) (hS : 0 < m → ∀ a, B = some a → S a.block) (k : Keeps S w w') : Spread w' B m V := fun hm => by
  obtain ⟨b, o, e, hlt, hc⟩ := h hm
  exact ⟨b, o, e, Nat.lt_of_lt_of_le hlt k.size, fun i hi => (hc i hi).keep (k.block b (hS hm _ e) hlt)⟩
theorem TVS.keep {S : Nat → Prop} {w w' : World} {r : TR} {t : Tm} (h : TVS S w r t) (k : Keeps S w w') : TVS S w' r t := by
  induction h with
  | mk r l ks V hf hm hs on hk ih => exact .mk r l ks V ⟨hf.k0, hf.k1, hf.n0, hf.n1, hf.u0, hf.u1, hf.lim.keep on.lim k, hf.cap, hf.str, hf.md, hf.dd⟩ hm (hs.keep on.arg k) on ih
theorem TVSs.keep {S : Nat → Prop} {w w' : World} {B : Option Addr} {m d : Nat} {ts : List Tm} (h : TVSs S w B m d ts) (k : Keeps S w w') : TVSs S w' B m d ts := by
  obtain ⟨V, h1, h2⟩ := h.el
  exact ⟨h.len, h.md, h.dd, h.on, V, h1.keep h.on k, fun i t e => (h2 i t e).keep k⟩
theorem TVSs.nil (S : Nat → Prop) (w : World) (B : Option Addr) (d : Nat) (hd : d ≤ maxLen) : TVSs S w B 0 d [] :=
  ⟨rfl, Nat.zero_le _, hd, fun h => absurd h (by omega), fun _ => default, fun h => absurd h (by omega), fun i t e => by simp at e⟩
theorem TVS.node {S : Nat → Prop} {w : World} {k n u : Int} {s : ByteArray} {B : Option Addr} {m d : Nat} {ks : List Tm} (h : TVSs S w B m d ks)
    (k0 : -9223372036854775808 ≤ k) (k1 : k ≤ 9223372036854775807) (n0 : -9223372036854775808 ≤ n) (n1 : n ≤ 9223372036854775807) (u0 : 0 ≤ u) (u1 : u ≤ 18446744073709551615) (hs : s.size ≤ maxLen) :
    TVS S w (mkR k n u s B m d) (.mk k n false [] u s ks) := by
  obtain ⟨V, h1, h2⟩ := h.el
  exact .mk (mkR k n u s B m d) [] ks V ⟨k0, k1, n0, n1, u0, u1, Lim.nil w none 0, Nat.zero_le _, hs, h.md, h.dd⟩ h.len h1 ⟨fun h => absurd h (by simp), fun hm a e => h.on hm a e⟩ h2
/-- A row of two terms, newly made. -/
theorem TVSs.two {S : Nat → Prop} {w : World} {r r' : TR} {t t' : Tm} (h : TVS S w r t) (h' : TVS S w r' t') (hn : S w.heap.size) :
    TVSs S (w.alloc (.cells #[.int .i64 r.k, .int .i64 r.n, .bool r.g, .slice r.A r.ln r.lc, .int .u64 r.u, .string r.s, .slice r.B r.m r.d, .int .i64 r'.k, .int .i64 r'.n, .bool r'.g, .slice r'.A r'.ln r'.lc, .int .u64 r'.u, .string r'.s, .slice r'.B r'.m r'.d] 28)) (some ⟨w.heap.size, 0, none⟩) 2 2 [t, t'] := by
  have H := (TVs.two h.tv h'.tv)
  refine ⟨rfl, Nat.le_refl _, by decide, fun _ a e => by cases e; exact hn, fun i => if i = 0 then r else r', fun _ => ⟨w.heap.size, 0, rfl, by simp, fun i hi => ?_⟩, fun i x e => ?_⟩
  · have : i = 0 ∨ i = 1 := by omega
    rcases this with rfl | rfl
    all_goals
      refine At7.of fun j hj => ?_
      rw [add_none, World.cell?_alloc_at _ _ _ _ rfl]
      have : j = 0 ∨ j = 1 ∨ j = 2 ∨ j = 3 ∨ j = 4 ∨ j = 5 ∨ j = 6 := by omega
      rcases this with rfl | rfl | rfl | rfl | rfl | rfl | rfl <;> rfl
  · have k := (Keeps.refl S w).alloc (.cells #[.int .i64 r.k, .int .i64 r.n, .bool r.g, .slice r.A r.ln r.lc, .int .u64 r.u, .string r.s, .slice r.B r.m r.d, .int .i64 r'.k, .int .i64 r'.n, .bool r'.g, .slice r'.A r'.ln r'.lc, .int .u64 r'.u, .string r'.s, .slice r'.B r'.m r'.d] 28)
    match i, e with
    | 0, e =>
      simp at e
      rw [← e]
      exact h.keep k
    | 1, e =>
      simp at e
      rw [← e]
      exact h'.keep k
    | i + 2, e => simp at e

/-- A record is written over block g. -/
@[reducible] def put7 (w : World) (g : Nat) (r : TR) : World :=
  ((((((w.setCell ⟨g, 0, none⟩ (.int .i64 r.k)).setCell ⟨g, 1, none⟩ (.int .i64 r.n)).setCell ⟨g, 2, none⟩ (.bool r.g)).setCell ⟨g, 3, none⟩ (.slice r.A r.ln r.lc)).setCell ⟨g, 4, none⟩ (.int .u64 r.u)).setCell ⟨g, 5, none⟩ (.string r.s)).setCell ⟨g, 6, none⟩ (.slice r.B r.m r.d)
theorem put7_size (w : World) (g : Nat) (r : TR) : (put7 w g r).heap.size = w.heap.size := by simp [put7, World.setCell]
theorem Box7.put {w : World} {g : Nat} {r : TR} (h : Box7 w g r) (r' : TR) : Box7 (put7 w g r') g r' := by
  unfold Box7 at h ⊢
  simp [World.setCell, Array.getElem?_modify, h]
theorem Box7.frozen {w : World} {g : Nat} {r : TR} (h : Box7 w g r) (i : Nat) : w.frozen? ⟨g, i, none⟩ = false := by unfold Box7 at h; simp [World.frozen?, h]
theorem Keeps.put7 {S : Nat → Prop} {a w : World} (h : Keeps S a w) {g : Nat} (hp : ¬ S g) (r : TR) : Keeps S a (put7 w g r) :=
  ((((((h.setCell (p := ⟨g, 0, none⟩) hp _).setCell (p := ⟨g, 1, none⟩) hp _).setCell (p := ⟨g, 2, none⟩) hp _).setCell (p := ⟨g, 3, none⟩) hp _).setCell (p := ⟨g, 4, none⟩) hp _).setCell (p := ⟨g, 5, none⟩) hp _).setCell (p := ⟨g, 6, none⟩) hp _
theorem _root_.Go.RowKit.Below.put7 {B : Nat} {a w : World} (h : Below B a w) {g : Nat} (hp : B ≤ g) (r : TR) : Below B a (put7 w g r) :=
  ((((((h.setCell (p := ⟨g, 0, none⟩) hp _).setCell (p := ⟨g, 1, none⟩) hp _).setCell (p := ⟨g, 2, none⟩) hp _).setCell (p := ⟨g, 3, none⟩) hp _).setCell (p := ⟨g, 4, none⟩) hp _).setCell (p := ⟨g, 5, none⟩) hp _).setCell (p := ⟨g, 6, none⟩) hp _
end Go.Proofs.Ytbpihjcghmmacaa
