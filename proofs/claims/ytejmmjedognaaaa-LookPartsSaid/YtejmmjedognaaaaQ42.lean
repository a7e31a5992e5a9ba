/-
  THE DUMP OF LookParts: what the calls answer.
  A REGION THAT ENDS IN ONE WAY, whatever order is drawn.
-/
import Derived.Test.YtejmmjedognaaaaQ41
import Derived.Test.YtejmmjedognaaaaQ34
import Derived.Test.YtejmmjedognaaaaQ40
import Derived.Test.YtejmmjedognaaaaQ2
namespace Go.Proofs.Ytejmmjedognaaaa
open Go.RowKit Go.Shelf
open St

set_option maxRecDepth 100000 in
/-- A term of bytes stands wherever it is. -/
theorem bi_tv {w w' : World} {R : TR} {s : ByteArray} (h : TV w R (biT s)) : TV w' R (biT s) := by
  generalize ht : biT s = t at h
  cases h with
  | mk r l ks V hf hm hs hk =>
    unfold biT at ht
    injection ht with e1 e2 e3 e4 e5 e6 e7
    subst e4 e7
    have h0 : R.ln = 0 := hf.lim.1.symm
    have h1 : R.m = 0 := hm.symm
    exact .mk R [] [] V ⟨hf.k0, hf.k1, hf.n0, hf.n1, hf.u0, hf.u1, ⟨hf.lim.1, hf.lim.2.1, hf.lim.2.2.1, fun hn => absurd hn (by omega)⟩, hf.cap, hf.str, hf.md, hf.dd⟩ hm (fun hn => absurd hn (by omega)) (fun i t e => by simp at e)
set_option maxRecDepth 100000 in
/-- The bytes, compared with a term that is made of them. -/
theorem same_bi {w : World} {tk tn : Int} {tg : Bool} {tA : Option Addr} {tln tlc : Nat} {tu : Int} {ts : ByteArray} {tB : Option Addr} {tm tdd : Nat} {s : ByteArray} (h : TV w ⟨tk, tn, tg, tA, tln, tlc, tu, ts, tB, tm, tdd⟩ (biT s)) (hs : s.size ≤ maxLen) :
    Calls Try.prog 8 #[.agg #[.int .i64 tk, .int .i64 tn, .bool tg, .slice tA tln tlc, .int .u64 tu, .string ts, .slice tB tm tdd], .agg #[.int .i64 9, .int .i64 0, .bool false, .slice none 0 0, .int .u64 0, .string s, .slice none 0 0]] w fun e w2 => e = .returned (.bool true) ∧ Below w.heap.size w w2 :=
  by
  have hl : TV w (mkR 9 0 0 s none 0 0) (biT s) := TV.leaf (by omega) (by omega) (by omega) (by omega) (by omega) (by omega) hs
  have q := sameTerm_eq (biT s) w ⟨tk, tn, tg, tA, tln, tlc, tu, ts, tB, tm, tdd⟩ (mkR 9 0 0 s none 0 0) h hl
  simp only at q
  exact q
set_option maxRecDepth 100000 in
theorem set7h {w : World} {D : Nat} {c0 c1 c2 c3 c4 c5 c6 : Value} {t : TypeId} (h : w.heap[D]? = some (.cells #[c0, c1, c2, c3, c4, c5, c6] t (0, 0))) (v0 v1 v2 v3 v4 v5 v6 : Value) :
    (((((((w.setCell ⟨D, 0, none⟩ v0).setCell ⟨D, 1, none⟩ v1).setCell ⟨D, 2, none⟩ v2).setCell ⟨D, 3, none⟩ v3).setCell ⟨D, 4, none⟩ v4).setCell ⟨D, 5, none⟩ v5).setCell ⟨D, 6, none⟩ v6).heap[D]? = some (.cells #[v0, v1, v2, v3, v4, v5, v6] t (0, 0)) := by
  have h0 : (w.setCell ⟨D, 0, none⟩ v0).heap[D]? = some (.cells #[v0, c1, c2, c3, c4, c5, c6] t (0, 0)) := by rw [heap_setCell_same w D 0 _ _ _ h]; simp
  have h1 : ((w.setCell ⟨D, 0, none⟩ v0).setCell ⟨D, 1, none⟩ v1).heap[D]? = some (.cells #[v0, v1, c2, c3, c4, c5, c6] t (0, 0)) := by rw [heap_setCell_same _ D 1 _ _ _ h0]; simp
  have h2 : (((w.setCell ⟨D, 0, none⟩ v0).setCell ⟨D, 1, none⟩ v1).setCell ⟨D, 2, none⟩ v2).heap[D]? = some (.cells #[v0, v1, v2, c3, c4, c5, c6] t (0, 0)) := by rw [heap_setCell_same _ D 2 _ _ _ h1]; simp
  have h3 : ((((w.setCell ⟨D, 0, none⟩ v0).setCell ⟨D, 1, none⟩ v1).setCell ⟨D, 2, none⟩ v2).setCell ⟨D, 3, none⟩ v3).heap[D]? = some (.cells #[v0, v1, v2, v3, c4, c5, c6] t (0, 0)) := by rw [heap_setCell_same _ D 3 _ _ _ h2]; simp
  have h4 : (((((w.setCell ⟨D, 0, none⟩ v0).setCell ⟨D, 1, none⟩ v1).setCell ⟨D, 2, none⟩ v2).setCell ⟨D, 3, none⟩ v3).setCell ⟨D, 4, none⟩ v4).heap[D]? = some (.cells #[v0, v1, v2, v3, v4, c5, c6] t (0, 0)) := by rw [heap_setCell_same _ D 4 _ _ _ h3]; simp
  have h5 : ((((((w.setCell ⟨D, 0, none⟩ v0).setCell ⟨D, 1, none⟩ v1).setCell ⟨D, 2, none⟩ v2).setCell ⟨D, 3, none⟩ v3).setCell ⟨D, 4, none⟩ v4).setCell ⟨D, 5, none⟩ v5).heap[D]? = some (.cells #[v0, v1, v2, v3, v4, v5, c6] t (0, 0)) := by rw [heap_setCell_same _ D 5 _ _ _ h4]; simp
  rw [heap_setCell_same _ D 6 _ _ _ h5]; simp
/-- It in memory. -/
def pRec (A : Option Addr) (n c : Nat) (z : Int) (RB : Nat) : DR := ⟨⟨9, A, n, c⟩, ⟨0, none, 0, 0⟩, z, 0, none, 0, 0, some ⟨RB, 0, none⟩, 2, 2, none, 0, 0, []⟩
section
variable {l : List Nat} {f m z : Int} {A : Option Addr} {n c RB : Nat} {w : World} (h : DV w (pRec A n c z RB) (pdp l f m)) (hl : l.length ≤ 64) (hs : Wr.Small l) (hf : 0 ≤ f ∧ f < 70) (hm : 0 ≤ m ∧ m < 70)
set_option maxRecDepth 100000 in
theorem pp_wd (hl : l.length ≤ 64) : Wd (pp l) := by unfold pp nw Wd; omega
set_option maxRecDepth 100000 in
theorem p_small (hl : l.length ≤ 64) : ∀ g ∈ (pdp l f m).y :: (pdp l f m).o :: (pdp l f m).fs, g.ws.length ≤ 1000 := by
  intro g hg
  have hw := pws_len l f m
  have hn : nw l ≤ 8 := by unfold nw; omega
  rcases List.mem_cons.1 hg with rfl | hg
  · show (pws l f m).length ≤ 1000
    omega
  · rcases List.mem_cons.1 hg with rfl | hg
    · exact Nat.zero_le _
    · cases hg
include h hl hs
set_option maxRecDepth 100000 in
theorem p_read : Calls Try.prog 7 #[.agg #[.int .i64 9, .slice A n c, .int .i64 0, .slice none 0 0, .int .i64 z, .int .i64 0, .slice none 0 0, .slice (some ⟨RB, 0, none⟩) 2 2, .slice none 0 0], .slice none 0 0, .int .u64 76] w fun e w2 =>
    (∃ tk tn tg tA tln tlc tu ts tB tm tdd, e = .returned (.tuple #[.agg #[.int .i64 tk, .int .i64 tn, .bool tg, .slice tA tln tlc, .int .u64 tu, .string ts, .slice tB tm tdd], .bool true]) ∧ TV w2 ⟨tk, tn, tg, tA, tln, tlc, tu, ts, tB, tm, tdd⟩ (biT (Wr.str l))) ∧ Below w.heap.size w w2 := by
  refine (read_any h (by simp [pRec]) (p_small hl) (sls_nil w) (by decide) 76 (by unfold Wd; decide)).mono ?_
  rintro e w2 ⟨⟨t, R, ht, _, rfl, tv, _⟩ | ⟨hno, _⟩, hb⟩
  · have e : t = biT (Wr.str l) := ht.det (p_rd hl hs)
    subst e
    exact ⟨⟨R.k, R.n, R.g, R.A, R.ln, R.lc, R.u, R.s, R.B, R.m, R.d, rfl, tv.tv⟩, hb⟩
  · have h1 := hno _ (p_rd (f := f) (m := m) hl hs)
    have h2 := bi_wt (s := Wr.str l) (by rw [str_sz]; omega)
    omega
include hf hm
set_option maxRecDepth 100000 in
theorem p_readp (hfm : f + m ≤ l.length) : Calls Try.prog 7 #[.agg #[.int .i64 9, .slice A n c, .int .i64 0, .slice none 0 0, .int .i64 z, .int .i64 0, .slice none 0 0, .slice (some ⟨RB, 0, none⟩) 2 2, .slice none 0 0], .slice none 0 0, .int .u64 (pp l)] w fun e w2 =>
    (∃ tk tn tg tA tln tlc tu ts tB tm tdd, e = .returned (.tuple #[.agg #[.int .i64 tk, .int .i64 tn, .bool tg, .slice tA tln tlc, .int .u64 tu, .string ts, .slice tB tm tdd], .bool true]) ∧ TV w2 ⟨tk, tn, tg, tA, tln, tlc, tu, ts, tB, tm, tdd⟩ (biT ((Wr.str l).extract f.toNat (f.toNat + m.toNat)))) ∧ Below w.heap.size w w2 := by
  refine (read_any h (by simp [pRec]) (p_small hl) (sls_nil w) (by decide) (pp l) (pp_wd hl)).mono ?_
  rintro e w2 ⟨⟨t, R, ht, _, rfl, tv, _⟩ | ⟨hno, _⟩, hb⟩
  · have e : t = _ := ht.det (p_rdp hl hs hf hm hfm)
    subst e
    exact ⟨⟨R.k, R.n, R.g, R.A, R.ln, R.lc, R.u, R.s, R.B, R.m, R.d, rfl, tv.tv⟩, hb⟩
  · have h1 := hno _ (p_rdp hl hs hf hm hfm)
    have h2 := bi_wt (s := (Wr.str l).extract f.toNat (f.toNat + m.toNat)) (by rw [ByteArray.size_extract, str_sz]; omega)
    omega
set_option maxRecDepth 100000 in
theorem p_readn (hfm : ¬ f + m ≤ l.length) : Calls Try.prog 7 #[.agg #[.int .i64 9, .slice A n c, .int .i64 0, .slice none 0 0, .int .i64 z, .int .i64 0, .slice none 0 0, .slice (some ⟨RB, 0, none⟩) 2 2, .slice none 0 0], .slice none 0 0, .int .u64 (pp l)] w fun e w2 =>
    e = .returned (.tuple #[.agg #[.int .i64 0, .int .i64 0, .bool false, .slice none 0 0, .int .u64 0, .string ⟨#[]⟩, .slice none 0 0], .bool false]) ∧ Below w.heap.size w w2 := by
  refine (read_any h (by simp [pRec]) (p_small hl) (sls_nil w) (by decide) (pp l) (pp_wd hl)).mono ?_
  rintro e w2 ⟨⟨t, R, ht, _, rfl, tv, _⟩ | ⟨_, rfl⟩, hb⟩
  · exact absurd ht (p_rdn hl hs hf hm hfm t)
  · exact ⟨rfl, hb⟩
set_option maxRecDepth 100000 in
theorem p_whyc : Calls Try.prog 9 #[.agg #[.int .i64 9, .slice A n c, .int .i64 0, .slice none 0 0, .int .i64 z, .int .i64 0, .slice none 0 0, .slice (some ⟨RB, 0, none⟩) 2 2, .slice none 0 0], .slice none 0 0] w fun e w2 =>
    e = .returned (.string (if f + m ≤ l.length then ⟨#[]⟩ else ⟨#[114, 111, 111, 116, 115]⟩)) ∧ Below w.heap.size w w2 := by
  have q := why_any h (by simp [pRec]) (p_small hl) (by simp [pRec]) (by simp [pRec]) (sls_nil w) (by decide)
  rw [show whyO ((pdp l f m).y :: (pdp l f m).o :: (pdp l f m).fs) [] (pdp l f m) = whyO (pgs l f m) [] (pdp l f m) from rfl, p_why hl hs hf hm] at q
  exact q
set_option maxRecDepth 100000 in
theorem p_livec (hfm : f + m ≤ l.length) : Calls Try.prog 10 #[.agg #[.int .i64 9, .slice A n c, .int .i64 0, .slice none 0 0, .int .i64 z, .int .i64 0, .slice none 0 0, .slice (some ⟨RB, 0, none⟩) 2 2, .slice none 0 0]] w fun e w2 =>
    e = .returned (.int .i64 (nw l + 6)) ∧ Below w.heap.size w w2 := by
  refine (live_any h (by simp [pRec]) (p_small hl) (by simp [pRec])).mono ?_
  rintro e w2 ⟨gs', rl, hg, hR, rfl, hb⟩
  rcases hg with ⟨_, rfl⟩ | ⟨hn, _⟩
  · exact ⟨by rw [p_live hl hs hf hm hfm hR], hb⟩
  · exact absurd p_sepa hn
end
end Go.Proofs.Ytejmmjedognaaaa

namespace Go.Proofs.Ytejmmjedognaaaa
open Go.RowKit

/-- It ends with this frame and this world. -/
def Way (A : Act) (W : World) : Exit → Act → World → Prop
  | .normal, a, w => a = A ∧ w = W
  | _, _, _ => False
set_option maxRecDepth 100000 in
theorem region_way {P : Program} {c : Code} {Q : Exit → Act → World → Prop} {a : Act} {w : World} {A : Act} {W : World} (h1 : c.wp P (Way A W) a w) (h2 : Q .normal A W) : c.wp P Q a w :=
  Code.wp_mono (fun e a w h => by
    cases e with
    | normal => obtain ⟨rfl, rfl⟩ := h; exact h2
    | _ => exact h.elim) h1
end Go.Proofs.Ytejmmjedognaaaa
