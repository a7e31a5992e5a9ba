/-
  PACKAGE term: List.
-/
import Derived.Test.YtbpihjcghmmacaaTmU
namespace Go.Proofs.Ytbpihjcghmmacaa
open Go.RowKit

/-- The list of some terms. -/
def listT : List Tm → Tm
  | [] => tNil
  | t :: r => .mk 8 0 false [] 0 ⟨#[]⟩ [t, listT r]

theorem TVSs.lt {S : Nat → Prop} {w : World} {B : Option Addr} {m d : Nat} {ts : List Tm} (h : TVSs S w B m d ts) : TVSs (fun b => S b ∧ b < w.heap.size) w B m d ts := by
  obtain ⟨V, h1, h2⟩ := h.el
  exact ⟨h.len, h.md, h.dd, fun hm a e => ⟨h.on hm a e, h1.blk hm a e⟩, V, h1, fun i t e => (h2 i t e).lt⟩
theorem TVSs.get {S : Nat → Prop} {w : World} {B : Option Addr} {m d : Nat} {ts : List Tm} (h : TVSs S w B m d ts) (i : Nat) (hi : i < m) :
    ∃ b o r t, B = some ⟨b, o, none⟩ ∧ b < w.heap.size ∧ At7 w b (o + i * 7) r ∧ ts[i]? = some t ∧ TVS S w r t := by
  obtain ⟨V, h1, h2⟩ := h.el
  obtain ⟨b, o, e, hlt, hc⟩ := h1 (by omega)
  have hg : ts[i]? = some (ts[i]'(by rw [h.len]; exact hi)) := List.getElem?_eq_getElem (by rw [h.len]; exact hi)
  exact ⟨b, o, V i, _, e, hlt, hc i hi, hg, h2 i _ hg⟩

/-- What stands while a list is made: the result's variable, the list's, the heads. -/
structure LsI (w : World) (q : Nat) (B : Option Addr) (m d : Nat) (ts : List Tm) (R : TR) (t : Tm) (W : World) : Prop where
  bp : Box7 W w.heap.size zeroR
  bq : Box7 W q R
  pq : w.heap.size < q
  tv : TVS (fun b => b ≠ q ∧ b ≠ w.heap.size) W R t
  hd : TVSs (fun b => b ≠ q ∧ b ≠ w.heap.size) W B m d ts
  be : Below w.heap.size w W
theorem LsI.below {w : World} {q : Nat} {B : Option Addr} {m d : Nat} {ts : List Tm} {R : TR} {t : Tm} {W W' : World} (h : LsI w q B m d ts R t W) (hb : Below W.heap.size W W') : LsI w q B m d ts R t W' :=
  ⟨h.bp.below hb, h.bq.below hb, h.pq, h.tv.keep (hb.keeps _), h.hd.keep (hb.keeps _), h.be.trans (hb.mono h.be.size)⟩
/-- One more head. -/
theorem LsI.push {w : World} {q : Nat} {B : Option Addr} {m d : Nat} {ts : List Tm} {R : TR} {t : Tm} {W : World} (h : LsI w q B m d ts R t W) {r' : TR} {t' : Tm} (h' : TVS (fun b => b ≠ q ∧ b ≠ w.heap.size) W r' t') :
    LsI w q B m d ts (mkR 8 0 0 ⟨#[]⟩ (some ⟨W.heap.size, 0, none⟩) 2 2) (.mk 8 0 false [] 0 ⟨#[]⟩ [t', t])
      ((put7 W q (mkR 8 0 0 ⟨#[]⟩ (some ⟨W.heap.size, 0, none⟩) 2 2)).alloc (.cells #[.int .i64 r'.k, .int .i64 r'.n, .bool r'.g, .slice r'.A r'.ln r'.lc, .int .u64 r'.u, .string r'.s, .slice r'.B r'.m r'.d, .int .i64 R.k, .int .i64 R.n, .bool R.g, .slice R.A R.ln R.lc, .int .u64 R.u, .string R.s, .slice R.B R.m R.d] 28)) := by
  have hpq := h.pq
  have hlt := h.bq.lt
  have hlp := h.bp.lt
  have kp := (Keeps.refl (fun b => b ≠ q ∧ b ≠ w.heap.size) W).put7 (g := q) (by simp) (mkR 8 0 0 ⟨#[]⟩ (some ⟨W.heap.size, 0, none⟩) 2 2)
  have hsz := put7_size W q (mkR 8 0 0 ⟨#[]⟩ (some ⟨W.heap.size, 0, none⟩) 2 2)
  have T := TVSs.two (h'.keep kp) (h.tv.keep kp) (by rw [hsz]; exact ⟨by omega, by omega⟩)
  rw [hsz] at T
  have N := TVS.node (k := 8) (n := 0) (u := 0) (s := ⟨#[]⟩) T (by omega) (by omega) (by omega) (by omega) (by omega) (by omega) (by decide)
  exact ⟨(h.bp.put' (by omega) _).below ((Below.refl _ _).alloc (Nat.le_refl _) _), (h.bq.put _).below ((Below.refl _ _).alloc (Nat.le_refl _) _), h.pq, N, h.hd.keep (kp.alloc _), (h.be.put7 (by omega) _).alloc (by rw [hsz]; omega) _⟩

set_option maxRecDepth 100000 in
set_option maxHeartbeats 8000000 in
theorem list_any (w : World) (B : Option Addr) (m d : Nat) (ts : List Tm) (hts : TVs w B m d ts) (hok : ∀ t ∈ ts, t.Ok) (hsz : Tm.size.sizes ts ≤ 1000) :
    Calls Try.prog 28 #[.slice B m d] w (RetT w (listT ts)) := by
  have b0 := (Below.refl w.heap.size w).alloc (Nat.le_refl _) (.cells #[.int .i64 zeroR.k, .int .i64 zeroR.n, .bool zeroR.g, .slice zeroR.A zeroR.ln zeroR.lc, .int .u64 zeroR.u, .string zeroR.s, .slice zeroR.B zeroR.m zeroR.d] 28)
  have hx := Box7.new w zeroR
  have hl := Tm.sizes_len ts
  have hts0 := hts.below b0
  have hlen := hts.len
  go_enter Try.func28, Try.ntmps28
  go_wp2_with fail
  have hW : (w.alloc (.cells #[.int .i64 zeroR.k, .int .i64 zeroR.n, .bool zeroR.g, .slice zeroR.A zeroR.ln zeroR.lc, .int .u64 zeroR.u, .string zeroR.s, .slice zeroR.B zeroR.m zeroR.d] 28)).heap.size = w.heap.size + 1 := by simp
  generalize w.alloc (.cells #[.int .i64 zeroR.k, .int .i64 zeroR.n, .bool zeroR.g, .slice zeroR.A zeroR.ln zeroR.lc, .int .u64 zeroR.u, .string zeroR.s, .slice zeroR.B zeroR.m zeroR.d] 28) = W at *
  refine (freshTerms_any W B m d ts hts0 hok hsz).mono ?_
  rintro e w1 ⟨B', m', d', rfl, hT, hb1⟩
  have hm : m' = m := by rw [← hlen, ← hT.len]
  subst hm
  have hw1 : w.heap.size + 1 ≤ w1.heap.size := by rw [← hW]; exact hb1.size
  have I0 : LsI w w1.heap.size B' m' d' ts (mkR 7 0 0 ⟨#[]⟩ none 0 0) tNil (w1.alloc (.cells #[.int .i64 (mkR 7 0 0 ⟨#[]⟩ none 0 0).k, .int .i64 (mkR 7 0 0 ⟨#[]⟩ none 0 0).n, .bool (mkR 7 0 0 ⟨#[]⟩ none 0 0).g, .slice (mkR 7 0 0 ⟨#[]⟩ none 0 0).A (mkR 7 0 0 ⟨#[]⟩ none 0 0).ln (mkR 7 0 0 ⟨#[]⟩ none 0 0).lc, .int .u64 (mkR 7 0 0 ⟨#[]⟩ none 0 0).u, .string (mkR 7 0 0 ⟨#[]⟩ none 0 0).s, .slice (mkR 7 0 0 ⟨#[]⟩ none 0 0).B (mkR 7 0 0 ⟨#[]⟩ none 0 0).m (mkR 7 0 0 ⟨#[]⟩ none 0 0).d] 28)) :=
    ⟨(hx.below hb1).below ((Below.refl _ _).alloc (Nat.le_refl _) _), Box7.new w1 _, by omega, TVS.leafy (TV.leaf (by omega) (by omega) (by omega) (by omega) (by omega) (by omega) (by decide)) (fun h => absurd h (by simp)) rfl,
      (hT.lt.keep ((Keeps.refl _ _).alloc _)).mono (fun b h => ⟨by omega, by omega⟩), (b0.trans (hb1.mono b0.size)).alloc (by omega) _⟩
  have hm64 : (m' : Int) ≤ 1000 := by omega
  obtain ⟨q, hq⟩ : ∃ q, q = w1.heap.size := ⟨_, rfl⟩
  go_wp2_with fail
  rw [← hq] at I0 ⊢
  clear hq hT
  go_loopw [5] (fun i w' => ∃ (j : Nat) (R : TR), j ≤ m' ∧ i = .int .i64 ((j : Int) - 1) ∧ LsI w q B' m' d' ts R (listT (ts.drop j)) w') (fun i _ => (intOf i + 1).toNat)
  case atStart => exact ⟨m', _, Nat.le_refl _, rfl, by rw [List.drop_eq_nil_of_le (by omega)]; exact I0⟩
  case round =>
    clear I0
    obtain ⟨j, R, hj, rfl, J⟩ := hrel
    cases j with
    | zero =>
      have hd1 : decide ((0 : Int) ≤ -1) = false := by decide
      have y0 := J.bq.at.c0; have y1 := J.bq.at.c1; have y2 := J.bq.at.c2; have y3 := J.bq.at.c3; have y4 := J.bq.at.c4; have y5 := J.bq.at.c5; have y6 := J.bq.at.c6; have x0 := J.bp.at.c0; have x1 := J.bp.at.c1; have x2 := J.bp.at.c2; have x3 := J.bp.at.c3; have x4 := J.bp.at.c4; have x5 := J.bp.at.c5; have x6 := J.bp.at.c6; have f0 := J.bp.frozen 0; have f1 := J.bp.frozen 1; have f2 := J.bp.frozen 2; have f3 := J.bp.frozen 3; have f4 := J.bp.frozen 4; have f5 := J.bp.frozen 5; have f6 := J.bp.frozen 6
      have hpq := J.pq
      have hT5 := (J.tv.keep ((Keeps.refl _ _).put7 (g := w.heap.size) (by simp) R)).tv
      have hB5 := J.be.put7 (g := w.heap.size) (Nat.le_refl _) R
      have C := (J.bp.put R).at
      have HT := Lib.hid hT5
      have HB := Lib.hid hB5
      have HC := Lib.hid C
      clear J hT5 hB5 C
      go_wp2
      have C := HC.out
      have z0 := C.c0; have z1 := C.c1; have z2 := C.c2; have z3 := C.c3; have z4 := C.c4; have z5 := C.c5; have z6 := C.c6
      have hT5 := HT.out
      have hB5 := HB.out
      clear C HC HT HB y0 y1 y2 y3 y4 y5 y6 x0 x1 x2 x3 x4 x5 x6 f0 f1 f2 f3 f4 f5 f6
      change bodyPost _ _ _ _ _ (put7 wr w.heap.size R)
      generalize put7 wr w.heap.size R = W5 at *
      exact bodyPost_ret (v := .agg #[.int .i64 R.k, .int .i64 R.n, .bool R.g, .slice R.A R.ln R.lc, .int .u64 R.u, .string R.s, .slice R.B R.m R.d]) (by simp [results, Try.results28, go_sem, z0, z1, z2, z3, z4, z5, z6]) rfl ⟨R, rfl, hT5, hB5⟩
    | succ k =>
      rw [show ((k + 1 : Nat) : Int) - 1 = (k : Int) by omega]
      have hd1 : decide ((0 : Int) ≤ (k : Int)) = true := by rw [decide_eq_true_iff]; omega
      have hkm : (k : Int) < (m' : Int) := by omega
      obtain ⟨b, o, r', t', e, hlt, h7, het, htv'⟩ := J.hd.get k (by omega)
      subst e
      have hpq := J.pq
      have hqlt := J.bq.lt
      have y0 := h7.c0; have y1 := h7.c1; have y2 := h7.c2; have y3 := h7.c3; have y4 := h7.c4; have y5 := h7.c5; have y6 := h7.c6; have x0 := J.bq.at.c0; have x1 := J.bq.at.c1; have x2 := J.bq.at.c2; have x3 := J.bq.at.c3; have x4 := J.bq.at.c4; have x5 := J.bq.at.c5; have x6 := J.bq.at.c6; have f0 := J.bq.frozen 0; have f1 := J.bq.frozen 1; have f2 := J.bq.frozen 2; have f3 := J.bq.frozen 3; have f4 := J.bq.frozen 4; have f5 := J.bq.frozen 5; have f6 := J.bq.frozen 6
      have hst := Lib.hid (show listT (ts.drop k) = .mk 8 0 false [] 0 ⟨#[]⟩ [t', listT (ts.drop (k + 1))] by
        rw [List.drop_eq_getElem_cons (by omega), listT]
        rw [List.getElem?_eq_getElem (by omega)] at het
        cases het
        rfl)
      have J2 := Lib.hid ((J.push htv').below (Below.refl _ _).drew)
      clear J h7 htv'
      go_wp2_with fail
      go_region
      all_goals
        go_wp2_with fail
        exact ⟨⟨k, _, by omega, by go_num, by rw [hst.out]; exact J2.out⟩, by simp [intOf]⟩
end Go.Proofs.Ytbpihjcghmmacaa
