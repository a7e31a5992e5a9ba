/-
  PACKAGE term: copied, OfNum, Int, Atom.
  PACKAGE term: Int, Atom.
  THE REFERENCE's OfNum, Int.
  PACKAGE fresh: left; a look-up in no map.
  PACKAGE fresh: terms that are copied apart (no map is kept).
  PACKAGE term: List.
  WHAT EVERY PROGRAM ANSWERS THAT IS ONE: awake of beehivelaw4.
  TWO TERMS AS THEY STAND: beehivelaw0.SameTerm, SameTerms, of terms that are the same.
  PACKAGE term: Num of a term of an integer; beehivelaw0.OverTerm of such a term.
-/
import Derived.Test.YtomohdfcggghoaaJ7
import Derived.Deep.RegionLaw
namespace Go.Proofs.Ytomohdfcggghoaa
open Go.RowKit

/-- What 'copied' leaves. -/
def CpN (w : World) (g : Bool) (n : Nat) (l : List Nat) (e : Ending) (w' : World) : Prop :=
  ∃ A c, e = .returned (.agg #[.bool g, .slice A n c]) ∧ Own w' w.heap.size A n c l ∧ Below w.heap.size w w'

set_option maxRecDepth 100000 in
theorem Own.setO {w : World} {base n c : Nat} {A : Option Addr} {l : List Nat} (h : Own w base A n c l) {p : Addr} (hp : p.block < base) (v : Value) : Own (w.setCell p v) base A n c l := by
  refine ⟨h.1, h.2.1, h.2.2.1, ?_⟩
  rcases h.2.2.2 with h0 | ⟨g, cap, cur, hv, hbg, hg, rest⟩
  · exact .inl h0
  · exact .inr ⟨g, cap, cur, hv, hbg, (Below.heap_setCell w p v g (by omega)).trans hg, rest⟩

/-- The term of an integer. -/
def ofT (g : Bool) (l : List Nat) : Tm := if smOk g l then .mk 1 (smZ g l) false [] 0 ⟨#[]⟩ [] else if mayB g l then .mk 2 0 g l 0 ⟨#[]⟩ [] else .mk 0 0 false [] 0 ⟨#[]⟩ []
/-- What OfNum leaves. -/
def OfP (w : World) (g : Bool) (l : List Nat) (e : Ending) (w' : World) : Prop :=
  ∃ R : TR, e = .returned (.tuple #[.agg #[.int .i64 R.k, .int .i64 R.n, .bool R.g, .slice R.A R.ln R.lc, .int .u64 R.u, .string R.s, .slice R.B R.m R.d], .bool (mayB g l)]) ∧ TV w' R (ofT g l) ∧ Own w' w.heap.size R.A R.ln R.lc (ofT g l).mag ∧ R.m = 0 ∧ Below w.heap.size w w'
set_option maxRecDepth 100000 in
theorem smZ_bd {g : Bool} {l : List Nat} (h : smOk g l = true) : -9223372036854775808 ≤ smZ g l ∧ smZ g l ≤ 9223372036854775807 := by
  unfold smZ
  unfold smOk at h
  rw [if_pos h]
  simp only [smallB, Bool.and_eq_true, decide_eq_true_eq] at h
  omega
set_option maxRecDepth 100000 in
theorem TV.int {w : World} {z : Int} (h0 : -9223372036854775808 ≤ z) (h1 : z ≤ 9223372036854775807) : TV w ⟨1, z, false, none, 0, 0, 0, ⟨#[]⟩, none, 0, 0⟩ (.mk 1 z false [] 0 ⟨#[]⟩ []) :=
  TV.mk' (by omega) (by omega) h0 h1 (by omega) (by omega) (Lim.nil _ _ _) (Nat.zero_le _) (Nat.zero_le _) (TVs.nil _ _ _ (Nat.zero_le _))
set_option maxRecDepth 100000 in
theorem TV.zero {w : World} : TV w zeroR (.mk 0 0 false [] 0 ⟨#[]⟩ []) :=
  TV.mk' (by omega) (by omega) (by omega) (by omega) (by omega) (by omega) (Lim.nil _ _ _) (Nat.zero_le _) (Nat.zero_le _) (TVs.nil _ _ _ (Nat.zero_le _))
set_option maxRecDepth 100000 in
theorem TV.big {w : World} {g : Bool} {A : Option Addr} {n c : Nat} {l : List Nat} (h : Lim w A n c l) (hc : c ≤ maxLen) : TV w ⟨2, 0, g, A, n, c, 0, ⟨#[]⟩, none, 0, 0⟩ (.mk 2 0 g l 0 ⟨#[]⟩ []) :=
  TV.mk' (by omega) (by omega) (by omega) (by omega) (by omega) (by omega) h hc (Nat.zero_le _) (TVs.nil _ _ _ (Nat.zero_le _))

end Go.Proofs.Ytomohdfcggghoaa

namespace Go.Proofs.Ytomohdfcggghoaa
open Go.RowKit

/-- The term of a small integer. -/
def intT (z : Int) : Tm := ofT (decide (z < 0)) (Lm.digits z.natAbs)
set_option maxRecDepth 100000 in
theorem may_digits (z : Int) (ht : z.natAbs < Lm.top) : mayB (decide (z < 0)) (Lm.digits z.natAbs) = true := by
  unfold mayB
  by_cases h0 : (Lm.digits z.natAbs).length = 0
  · rw [if_pos h0]
    have : z.natAbs = 0 := Lm.digits_eq_nil.1 (List.eq_nil_of_length_eq_zero h0)
    have hz : z = 0 := by omega
    subst hz
    rfl
  · rw [if_neg h0]
    have h1 := (Lm.top_iff _).2 ht
    have h2 := Lm.canon_digits z.natAbs (by omega)
    simp [h1]
    exact h2
set_option maxRecDepth 100000 in
theorem sgn_digits (z : Int) : sgn (decide (z < 0)) (Lm.val (Lm.digits z.natAbs)) = z := by
  rw [Lm.val_digits]
  unfold sgn
  by_cases hz : z < 0
  · simp [hz]; omega
  · simp [hz]; omega
set_option maxRecDepth 100000 in
theorem intT_small {z : Int} (ht : z.natAbs < Lm.top) (h : smallB z = true) : intT z = .mk 1 z false [] 0 ⟨#[]⟩ [] := by
  unfold intT ofT smZ smOk
  rw [may_digits z ht, sgn_digits, h]
  rfl
set_option maxRecDepth 100000 in
theorem intT_big {z : Int} (ht : z.natAbs < Lm.top) (h : smallB z = false) : intT z = .mk 2 0 (decide (z < 0)) (Lm.digits z.natAbs) 0 ⟨#[]⟩ [] := by
  unfold intT ofT smOk
  rw [may_digits z ht, sgn_digits, h]
  rfl

set_option maxRecDepth 100000 in
theorem TVS.leafy {S : Nat → Prop} {w : World} {R : TR} {t : Tm} (h : TV w R t) (ho : 0 < R.ln → ∀ a, R.A = some a → S a.block) (hm : R.m = 0) : TVS S w R t := by
  cases h with
  | mk _ l ks V hf hm' hs hk =>
    refine .mk R l ks V hf hm' hs ⟨ho, fun h => absurd h (by omega)⟩ (fun i t e => ?_)
    rw [List.eq_nil_of_length_eq_zero (hm'.trans hm)] at e
    simp at e
/-- A call leaves this term. -/
def RetT (w : World) (t : Tm) (e : Ending) (w' : World) : Prop := ∃ R : TR, e = .returned (.agg #[.int .i64 R.k, .int .i64 R.n, .bool R.g, .slice R.A R.ln R.lc, .int .u64 R.u, .string R.s, .slice R.B R.m R.d]) ∧ TV w' R t ∧ Below w.heap.size w w'

set_option maxRecDepth 100000 in
set_option maxHeartbeats 2000000 in
theorem atom_any (w : World) (z : Int) (h1 : -9223372036854775808 ≤ z) (h2 : z ≤ 9223372036854775807) :
    Calls Try.prog 22 #[.int .i64 z] w (RetT w (.mk 4 z false [] 0 ⟨#[]⟩ [])) := by
  go_enter Try.func22, Try.ntmps22
  go_wp2
  exact bodyPost_ret (v := .agg #[.int .i64 (TR.mk 4 z false none 0 0 0 ⟨#[]⟩ none 0 0).k, .int .i64 (TR.mk 4 z false none 0 0 0 ⟨#[]⟩ none 0 0).n, .bool (TR.mk 4 z false none 0 0 0 ⟨#[]⟩ none 0 0).g, .slice (TR.mk 4 z false none 0 0 0 ⟨#[]⟩ none 0 0).A (TR.mk 4 z false none 0 0 0 ⟨#[]⟩ none 0 0).ln (TR.mk 4 z false none 0 0 0 ⟨#[]⟩ none 0 0).lc, .int .u64 (TR.mk 4 z false none 0 0 0 ⟨#[]⟩ none 0 0).u, .string (TR.mk 4 z false none 0 0 0 ⟨#[]⟩ none 0 0).s, .slice (TR.mk 4 z false none 0 0 0 ⟨#[]⟩ none 0 0).B (TR.mk 4 z false none 0 0 0 ⟨#[]⟩ none 0 0).m (TR.mk 4 z false none 0 0 0 ⟨#[]⟩ none 0 0).d]) (by simp [results, Try.results22, go_sem]) rfl ⟨⟨4, z, false, none, 0, 0, 0, ⟨#[]⟩, none, 0, 0⟩, rfl, TV.mk' (by omega) (by omega) h1 h2 (by omega) (by omega) (Lim.nil _ _ _) (Nat.zero_le _) (Nat.zero_le _) (TVs.nil _ _ _ (Nat.zero_le _)), (Below.refl _ _).alloc (Nat.le_refl _) _⟩
end Go.Proofs.Ytomohdfcggghoaa

namespace Go.Proofs.Ytomohdfcggghoaa
open Go.RowKit

set_option maxRecDepth 100000 in
/-- append, as one step of a region that draws. -/
theorem step_app {P : Program} {ops : Array Oper} {o : Oper} {a : Act} {w w' : World} {K : Act → World → Prop} {Q : Exit → Act → World → Prop} {E : Prop}
    (hg : o.guard = none) (s x : Operand) (t : TypeId) (hop : o.op = Op.call { callee := Callee.builtin Builtin.append, args := #[s, x], argTypes := #[t, t] })
    (v y v' : Value) (hs : a.eval s = v) (hx : a.eval x = y) (hrun : (Builtin.append_ #[t, t] o.type #[v, y]).run P w = .ok v' w')
    (hK : K (a.put o.dst v') w') : if Region.wanted o (yielded ops a.tmps) = true then Oper.wp P o a w K Q else E := by
  have hw : Region.wanted o (yielded ops a.tmps) = true := by simp [Region.wanted, hg]
  rw [if_pos hw]
  unfold Oper.wp
  simp [execOp, hop, resolve, invoke, builtin, hs, hx, hrun, Result.andThen]
  exact hK

end Go.Proofs.Ytomohdfcggghoaa

namespace Go.Proofs.Ytomohdfcggghoaa
open Go.RowKit

set_option maxRecDepth 100000 in
theorem Tm.sizes_take {ts : List Tm} {j : Nat} {t : Tm} (h : ts[j]? = some t) : Tm.size.sizes (ts.take (j + 1)) = Tm.size.sizes (ts.take j) + t.size := by
  induction ts generalizing j with
  | nil => simp at h
  | cons a r ih =>
    cases j with
    | zero => simp at h; subst h; simp [Tm.size.sizes]
    | succ j =>
      simp at h
      have := ih h
      simp only [List.take_succ_cons, Tm.size.sizes, this]
      omega
set_option maxRecDepth 100000 in
theorem Tm.sizes_take_le (ts : List Tm) (j : Nat) : Tm.size.sizes (ts.take j) ≤ Tm.size.sizes ts := by
  induction ts generalizing j with
  | nil => simp
  | cons a r ih =>
    cases j with
    | zero => simp [Tm.size.sizes]
    | succ j => have := ih j; simp only [List.take_succ_cons, Tm.size.sizes]; omega

end Go.Proofs.Ytomohdfcggghoaa

namespace Go.Proofs.Ytomohdfcggghoaa
open Go.RowKit

set_option maxRecDepth 100000 in
theorem make_terms (n : Nat) (hn : n ≤ 100000) (w : World) :
    (Instr.makeSlice 26 (.int .i64 (n : Int)) (.int .i64 (n : Int))).run Try.prog w = .ok (.slice (some ⟨w.heap.size, 0, none⟩) n n) (w.alloc (.cells (madeCells (Value.cells (.agg #[.int .i64 zeroR.k, .int .i64 zeroR.n, .bool zeroR.g, .slice zeroR.A zeroR.ln zeroR.lc, .int .u64 zeroR.u, .string zeroR.s, .slice zeroR.B zeroR.m zeroR.d])) (n * 7)) 28)) := by
  obtain ⟨i, hi, hz, hs, hb⟩ := info_term'
  have h := run_make (P := Try.prog) w 26 28 i _ und_terms hi hz .i64 .i64 n n (by omega) (by omega) (by rw [hb]; omega) (by omega)
  rw [hs] at h
  simp only [Int.toNat_natCast] at h
  exact h

/-- A record is written into the row, from cell x on. -/
@[reducible] def put7o (w : World) (g x : Nat) (r : TR) : World :=
  ((((((w.setCell ⟨g, x, none⟩ (.int .i64 r.k)).setCell ⟨g, x + 1, none⟩ (.int .i64 r.n)).setCell ⟨g, x + 2, none⟩ (.bool r.g)).setCell ⟨g, x + 3, none⟩ (.slice r.A r.ln r.lc)).setCell ⟨g, x + 4, none⟩ (.int .u64 r.u)).setCell ⟨g, x + 5, none⟩ (.string r.s)).setCell ⟨g, x + 6, none⟩ (.slice r.B r.m r.d)
set_option maxRecDepth 100000 in
theorem setOth {w : World} {g x y : Nat} {u : Value} {X : Option Value} (h : w.cell? ⟨g, y, none⟩ = X) (hn : x ≠ y) : (w.setCell ⟨g, x, none⟩ u).cell? ⟨g, y, none⟩ = X := by
  exact (World.cell?_setCell_other w _ _ _ (fun e => by cases e; exact hn rfl)).trans h
set_option maxRecDepth 100000 in
theorem setAny {w : World} {g x y : Nat} {u : Value} (h : ∃ v, w.cell? ⟨g, y, none⟩ = some v) : ∃ v, (w.setCell ⟨g, x, none⟩ u).cell? ⟨g, y, none⟩ = some v := by
  obtain ⟨v, h⟩ := h
  exact cell?_setCell_some h
set_option maxRecDepth 100000 in
theorem setSame {w : World} {g x : Nat} {u : Value} (h : ∃ v, w.cell? ⟨g, x, none⟩ = some v) : (w.setCell ⟨g, x, none⟩ u).cell? ⟨g, x, none⟩ = some u := by
  obtain ⟨v, h⟩ := h
  exact World.cell?_setCell_same w _ _ h
set_option maxRecDepth 100000 in
theorem put7o_at {W : World} {g x : Nat} (r : TR) (h : ∀ k, k < 7 → ∃ v, W.cell? ⟨g, x + k, none⟩ = some v) : At7 (put7o W g x r) g x r where
  c0 := setOth (setOth (setOth (setOth (setOth (setOth (setSame (h 0 (by omega))) (by omega)) (by omega)) (by omega)) (by omega)) (by omega)) (by omega)
  c1 := setOth (setOth (setOth (setOth (setOth (setSame (setAny (h 1 (by omega)))) (by omega)) (by omega)) (by omega)) (by omega)) (by omega)
  c2 := setOth (setOth (setOth (setOth (setSame (setAny (setAny (h 2 (by omega))))) (by omega)) (by omega)) (by omega)) (by omega)
  c3 := setOth (setOth (setOth (setSame (setAny (setAny (setAny (h 3 (by omega)))))) (by omega)) (by omega)) (by omega)
  c4 := setOth (setOth (setSame (setAny (setAny (setAny (setAny (h 4 (by omega))))))) (by omega)) (by omega)
  c5 := setOth (setSame (setAny (setAny (setAny (setAny (setAny (h 5 (by omega)))))))) (by omega)
  c6 := setSame (setAny (setAny (setAny (setAny (setAny (setAny (h 6 (by omega))))))))
set_option maxRecDepth 100000 in
theorem At7.set3 {W : World} {g x : Nat} {r : TR} (h : At7 W g x r) (A : Option Addr) (n c : Nat) : At7 (W.setCell ⟨g, x + 3, none⟩ (.slice A n c)) g x ⟨r.k, r.n, r.g, A, n, c, r.u, r.s, r.B, r.m, r.d⟩ :=
  ⟨setOth h.c0 (by omega), setOth h.c1 (by omega), setOth h.c2 (by omega), setSame ⟨_, h.c3⟩, setOth h.c4 (by omega), setOth h.c5 (by omega), setOth h.c6 (by omega)⟩
set_option maxRecDepth 100000 in
theorem At7.set6 {W : World} {g x : Nat} {r : TR} (h : At7 W g x r) (B : Option Addr) (n c : Nat) : At7 (W.setCell ⟨g, x + 6, none⟩ (.slice B n c)) g x ⟨r.k, r.n, r.g, r.A, r.ln, r.lc, r.u, r.s, B, n, c⟩ :=
  ⟨setOth h.c0 (by omega), setOth h.c1 (by omega), setOth h.c2 (by omega), setOth h.c3 (by omega), setOth h.c4 (by omega), setOth h.c5 (by omega), setSame ⟨_, h.c6⟩⟩

set_option maxRecDepth 100000 in
theorem TVS.copied {S : Nat → Prop} {w W : World} {r : TR} {t : Tm} {A B : Option Addr} {n c m d : Nat} (h : TV w r t) (L : Lim W A n c t.mag) (hc : c ≤ maxLen) (hS : 0 < n → ∀ a, A = some a → S a.block) (hT : TVSs S W B m d t.args) :
    TVS S W ⟨r.k, r.n, r.g, A, n, c, r.u, r.s, B, m, d⟩ t := by
  obtain ⟨V, h1, h2⟩ := hT.el
  have F := h.flat
  have := TVS.mk (S := S) (w := W) ⟨r.k, r.n, r.g, A, n, c, r.u, r.s, B, m, d⟩ t.mag t.args V ⟨F.k0, F.k1, F.n0, F.n1, F.u0, F.u1, L, hc, F.str, hT.md, hT.dd⟩ hT.len h1 ⟨hS, fun h a e => hT.on h a e⟩ h2
  have et : Tm.mk r.k r.n r.g t.mag r.u r.s t.args = t := by
    have e1 := h.kind
    have e2 := h.num
    have e3 := h.neg
    have e4 := h.bits
    have e5 := h.bytes
    cases t
    simp only [Tm.kind, Tm.num, Tm.neg, Tm.bits, Tm.bytes] at e1 e2 e3 e4 e5
    subst e1 e2 e3 e4 e5
    rfl
  rw [← et]
  exact this

end Go.Proofs.Ytomohdfcggghoaa

namespace Go.Proofs.Ytomohdfcggghoaa
open Go.RowKit

/-- The list of some terms. -/
def listT : List Tm → Tm
  | [] => tNil
  | t :: r => .mk 8 0 false [] 0 ⟨#[]⟩ [t, listT r]

set_option maxRecDepth 100000 in
theorem TVSs.lt {S : Nat → Prop} {w : World} {B : Option Addr} {m d : Nat} {ts : List Tm} (h : TVSs S w B m d ts) : TVSs (fun b => S b ∧ b < w.heap.size) w B m d ts := by
  obtain ⟨V, h1, h2⟩ := h.el
  exact ⟨h.len, h.md, h.dd, fun hm a e => ⟨h.on hm a e, h1.blk hm a e⟩, V, h1, fun i t e => (h2 i t e).lt⟩
set_option maxRecDepth 100000 in
theorem TVSs.get {S : Nat → Prop} {w : World} {B : Option Addr} {m d : Nat} {ts : List Tm} (h : TVSs S w B m d ts) (i : Nat) (hi : i < m) :
    ∃ b o r t, B = some ⟨b, o, none⟩ ∧ b < w.heap.size ∧ At7 w b (o + i * 7) r ∧ ts[i]? = some t ∧ TVS S w r t := by
  obtain ⟨V, h1, h2⟩ := h.el
  obtain ⟨b, o, e, hlt, hc⟩ := h1 (by omega)
  have hg : ts[i]? = some (ts[i]'(by rw [h.len]; exact hi)) := List.getElem?_eq_getElem (by rw [h.len]; exact hi)
  exact ⟨b, o, V i, _, e, hlt, hc i hi, hg, h2 i _ hg⟩

/-- What stands while a list is made: the result's variable, the list's, the heads. -/
structure LsI (w : World) (q : Nat) (B : Option Addr) (m d : Nat) (ts : List Tm) (R : TR) (t : Tm) (W : World) : Prop where
  bp : Box7 W w.heap.size zeroR
  bq : Box7 W q R
  pq : w.heap.size < q
  tv : TVS (fun b => b ≠ q ∧ w.heap.size < b) W R t
  hd : TVSs (fun b => b ≠ q ∧ w.heap.size < b) W B m d ts
  be : Below w.heap.size w W
set_option maxRecDepth 100000 in
theorem LsI.below {w : World} {q : Nat} {B : Option Addr} {m d : Nat} {ts : List Tm} {R : TR} {t : Tm} {W W' : World} (h : LsI w q B m d ts R t W) (hb : Below W.heap.size W W') : LsI w q B m d ts R t W' :=
  ⟨h.bp.below hb, h.bq.below hb, h.pq, h.tv.keep (hb.keeps _), h.hd.keep (hb.keeps _), h.be.trans (hb.mono h.be.size)⟩
set_option maxRecDepth 100000 in
/-- One more head. -/
theorem LsI.push {w : World} {q : Nat} {B : Option Addr} {m d : Nat} {ts : List Tm} {R : TR} {t : Tm} {W : World} (h : LsI w q B m d ts R t W) {r' : TR} {t' : Tm} (h' : TVS (fun b => b ≠ q ∧ w.heap.size < b) W r' t') :
    LsI w q B m d ts (mkR 8 0 0 ⟨#[]⟩ (some ⟨W.heap.size, 0, none⟩) 2 2) (.mk 8 0 false [] 0 ⟨#[]⟩ [t', t])
      ((put7 W q (mkR 8 0 0 ⟨#[]⟩ (some ⟨W.heap.size, 0, none⟩) 2 2)).alloc (.cells #[.int .i64 r'.k, .int .i64 r'.n, .bool r'.g, .slice r'.A r'.ln r'.lc, .int .u64 r'.u, .string r'.s, .slice r'.B r'.m r'.d, .int .i64 R.k, .int .i64 R.n, .bool R.g, .slice R.A R.ln R.lc, .int .u64 R.u, .string R.s, .slice R.B R.m R.d] 28)) := by
  have hpq := h.pq
  have hlt := h.bq.lt
  have hlp := h.bp.lt
  have kp := (Keeps.refl (fun b => b ≠ q ∧ w.heap.size < b) W).put7 (g := q) (by simp) (mkR 8 0 0 ⟨#[]⟩ (some ⟨W.heap.size, 0, none⟩) 2 2)
  have hsz := put7_size W q (mkR 8 0 0 ⟨#[]⟩ (some ⟨W.heap.size, 0, none⟩) 2 2)
  have T := TVSs.two (h'.keep kp) (h.tv.keep kp) (by rw [hsz]; exact ⟨by omega, by omega⟩)
  rw [hsz] at T
  have N := TVS.node (k := 8) (n := 0) (u := 0) (s := ⟨#[]⟩) T (by omega) (by omega) (by omega) (by omega) (by omega) (by omega) (by decide)
  exact ⟨(h.bp.put' (by omega) _).below ((Below.refl _ _).alloc (Nat.le_refl _) _), (h.bq.put _).below ((Below.refl _ _).alloc (Nat.le_refl _) _), h.pq, N, h.hd.keep (kp.alloc _), (h.be.put7 (by omega) _).alloc (by rw [hsz]; omega) _⟩

end Go.Proofs.Ytomohdfcggghoaa

namespace Go.Proofs.Ytomohdfcggghoaa
open Go.RowKit

def tOne : Tm := .mk 1 1 false [] 0 ⟨#[]⟩ []
def tAll : Tm := .mk 3 0 false [] 18446744073709551615 ⟨#[]⟩ []
def tList1 : Tm := .mk 8 0 false [] 0 ⟨#[]⟩ [tOne, tNil]
set_option maxRecDepth 100000 in
theorem intT_one : intT 1 = tOne := intT_small (by have := Lm.top_ge; omega) (by decide)
set_option maxRecDepth 100000 in
theorem listT_one : listT [tOne] = tList1 := rfl
set_option maxRecDepth 100000 in
theorem tList1_ok : tList1.Ok := by simp [tList1, tOne, tNil, Tm.Ok, Tm.Oks, ByteArray.size]
set_option maxRecDepth 100000 in
theorem tOne_ok : tOne.Ok := by simp [tOne, Tm.Ok, Tm.Oks, ByteArray.size]
set_option maxRecDepth 100000 in
theorem tNil_ok : tNil.Ok := by simp [tNil, Tm.Ok, Tm.Oks, ByteArray.size]
set_option maxRecDepth 100000 in
theorem tAll_ok : tAll.Ok := by simp [tAll, Tm.Ok, Tm.Oks, ByteArray.size]
set_option maxRecDepth 100000 in
theorem tNil_cap : tNil.cap = 1 := by simp [Tm.cap, tNil, Tm.wt]
set_option maxRecDepth 100000 in
theorem tList1_may : tList1.mayB = true := by
  have h1 : tList1.cap = 3 := by simp [Tm.cap, tList1, tOne, tNil, Tm.wt, Tm.wts]
  have h2 : tList1.formB = true := by simp [tList1, tOne, tNil, Tm.formB, Tm.formsB, Tm.alikeB, Tm.ment, Tm.boundB, Tm.kind, Tm.num, Tm.args, Tm.mag, Tm.neg, Tm.bits, Tm.bytes]
  rw [Tm.mayB, h1, h2]; rfl
set_option maxRecDepth 100000 in
theorem tAll_may : tAll.mayB = false := by
  have h2 : tAll.formB = false := by
    have : (cleanI 18446744073709551615 == 18446744073709551615) = false := by decide
    simp [tAll, Tm.formB, Tm.formsB, Tm.boundB, Tm.kind, Tm.bits]
    intro _ h
    rw [h] at this
    simp at this
  rw [Tm.mayB, h2]; simp
set_option maxRecDepth 100000 in
theorem intT_top : (intT 1152921504606846976).kind = 2 := by
  rw [intT_big (by have := Lm.top_ge; omega) (by decide)]; rfl

set_option maxRecDepth 100000 in
theorem field_kind (R : TR) (w : World) : (Instr.field 28 (.agg #[.int .i64 R.k, .int .i64 R.n, .bool R.g, .slice R.A R.ln R.lc, .int .u64 R.u, .string R.s, .slice R.B R.m R.d]) 0).run Try.prog w = .ok (.int .i64 R.k) w := by kernel_rfl

end Go.Proofs.Ytomohdfcggghoaa

namespace Go.Proofs.Ytomohdfcggghoaa
open Go.RowKit

set_option maxRecDepth 100000 in
theorem twoS {W v : World} {b o b' o' : Nat} {ra rb : TR} (hv : Below W.heap.size W v)
    (h : At7 W b o ra) (hlt : b < W.heap.size) (h' : At7 W b' o' rb) (hlt' : b' < W.heap.size) : v.cell? ⟨b, o, none⟩ = some (.int .i64 ra.k) ∧ v.cell? ⟨b, o + 1, none⟩ = some (.int .i64 ra.n) ∧ v.cell? ⟨b, o + 2, none⟩ = some (.bool ra.g) ∧ v.cell? ⟨b, o + 3, none⟩ = some (.slice ra.A ra.ln ra.lc) ∧ v.cell? ⟨b, o + 4, none⟩ = some (.int .u64 ra.u) ∧ v.cell? ⟨b, o + 5, none⟩ = some (.string ra.s) ∧ v.cell? ⟨b, o + 6, none⟩ = some (.slice ra.B ra.m ra.d) ∧ v.cell? ⟨b', o', none⟩ = some (.int .i64 rb.k) ∧ v.cell? ⟨b', o' + 1, none⟩ = some (.int .i64 rb.n) ∧ v.cell? ⟨b', o' + 2, none⟩ = some (.bool rb.g) ∧ v.cell? ⟨b', o' + 3, none⟩ = some (.slice rb.A rb.ln rb.lc) ∧ v.cell? ⟨b', o' + 4, none⟩ = some (.int .u64 rb.u) ∧ v.cell? ⟨b', o' + 5, none⟩ = some (.string rb.s) ∧ v.cell? ⟨b', o' + 6, none⟩ = some (.slice rb.B rb.m rb.d) :=
  seven (h.below hv hlt) (seven' (h'.below hv hlt'))

set_option maxRecDepth 100000 in
set_option maxRecDepth 100000 in
set_option maxHeartbeats 4000000 in
theorem sameTerms_of (ts : List Tm) (ih : ∀ t ∈ ts, ∀ (w : World) (r r' : TR), TV w r t → TV w r' t → Calls Try.prog 18 #[.agg #[.int .i64 r.k, .int .i64 r.n, .bool r.g, .slice r.A r.ln r.lc, .int .u64 r.u, .string r.s, .slice r.B r.m r.d], .agg #[.int .i64 r'.k, .int .i64 r'.n, .bool r'.g, .slice r'.A r'.ln r'.lc, .int .u64 r'.u, .string r'.s, .slice r'.B r'.m r'.d]] w fun e w' => e = .returned (.bool true) ∧ Below w.heap.size w w')
    (w : World) (B : Option Addr) (m d : Nat) (hts : TVs w B m d ts) (B' : Option Addr) (d' : Nat) (hts' : TVs w B' m d' ts) :
    Calls Try.prog 30 #[.slice B m d, .slice B' m d'] w fun e w' => e = .returned (.bool true) ∧ Below w.heap.size w w' := by
  have IH := Lib.hid ih
  clear ih
  have hml : m ≤ maxLen := Nat.le_trans hts.md hts.dd
  have hml' : (m : Int) ≤ 9223372036854775807 := by unfold maxLen at hml; omega
  go_enter Try.func30, Try.ntmps30
  go_wp2_with fail
  go_loopw [5] (fun i w' => ∃ j : Nat, j ≤ m ∧ i = .int .i64 (j : Int) ∧ Below w.heap.size w w') (fun i _ => m - (intOf i).toNat)
  case atStart => exact ⟨0, Nat.zero_le _, rfl, Below.refl _ _⟩
  case round =>
    obtain ⟨j, hj, rfl, hb⟩ := hrel
    by_cases hjm : j < m
    · have hd1 : decide ((j : Int) < (m : Int)) = true := by rw [decide_eq_true_iff]; omega
      obtain ⟨b, o, ra, t, e, hlt, h7, het, htv⟩ := (hts.below hb).get j hjm
      obtain ⟨b', o', rb, t', e', hlt', h7', het', htv'⟩ := (hts'.below hb).get j hjm
      rw [het] at het'
      cases het'
      subst e e'
      have hmem := List.mem_of_getElem? het
      have d0 := h7.c0; have d1 := h7.c1; have d2 := h7.c2; have d3 := h7.c3; have d4 := h7.c4; have d5 := h7.c5; have d6 := h7.c6; have c0 := h7'.c0; have c1 := h7'.c1; have c2 := h7'.c2; have c3 := h7'.c3; have c4 := h7'.c4; have c5 := h7'.c5; have c6 := h7'.c6
      have H7 := Lib.hid h7
      have H7' := Lib.hid h7'
      have HT := Lib.hid htv
      have HT' := Lib.hid htv'
      have IA := Lib.hid (IH.out t hmem)
      clear h7 h7' htv htv'
      go_wp2_with fail
      go_region_held3 (fun w' => w'.cell? ⟨b, o + j * 7, none⟩ = some (.int .i64 ra.k) ∧ w'.cell? ⟨b, o + j * 7 + 1, none⟩ = some (.int .i64 ra.n) ∧ w'.cell? ⟨b, o + j * 7 + 2, none⟩ = some (.bool ra.g) ∧ w'.cell? ⟨b, o + j * 7 + 3, none⟩ = some (.slice ra.A ra.ln ra.lc) ∧ w'.cell? ⟨b, o + j * 7 + 4, none⟩ = some (.int .u64 ra.u) ∧ w'.cell? ⟨b, o + j * 7 + 5, none⟩ = some (.string ra.s) ∧ w'.cell? ⟨b, o + j * 7 + 6, none⟩ = some (.slice ra.B ra.m ra.d) ∧ w'.cell? ⟨b', o' + j * 7, none⟩ = some (.int .i64 rb.k) ∧ w'.cell? ⟨b', o' + j * 7 + 1, none⟩ = some (.int .i64 rb.n) ∧ w'.cell? ⟨b', o' + j * 7 + 2, none⟩ = some (.bool rb.g) ∧ w'.cell? ⟨b', o' + j * 7 + 3, none⟩ = some (.slice rb.A rb.ln rb.lc) ∧ w'.cell? ⟨b', o' + j * 7 + 4, none⟩ = some (.int .u64 rb.u) ∧ w'.cell? ⟨b', o' + j * 7 + 5, none⟩ = some (.string rb.s) ∧ w'.cell? ⟨b', o' + j * 7 + 6, none⟩ = some (.slice rb.B rb.m rb.d))
        (first | exact ⟨d0, d1, d2, d3, d4, d5, d6, c0, c1, c2, c3, c4, c5, c6⟩ | exact KS.out)
        (first
          | (go_at_call 18; refine (IA.out wr.drew ra rb (by exact HT.out.bel (Below.refl _ _).drew) (by exact HT'.out.bel (Below.refl _ _).drew)).mono ?_; rintro e v ⟨rfl, hv⟩; have KS := Lib.hid (twoS (W := wr.drew) hv (H7.out.below (Below.refl _ _).drew hlt) hlt (H7'.out.below (Below.refl _ _).drew hlt') hlt'); have hB := Lib.hid ((hb.drew).trans (hv.mono hb.size)); clear hv))
      clear d0 d1 d2 d3 d4 d5 d6 c0 c1 c2 c3 c4 c5 c6
      go_wp2_with fail
      go_roundw
      case rel => exact ⟨j + 1, by omega, by go_num, hB.out⟩
      case measure => simp [intOf]; omega
    · have hd1 : decide ((j : Int) < (m : Int)) = false := by rw [decide_eq_false_iff_not]; omega
      go_wp2
      go_ret
      exact ⟨rfl, hb⟩

set_option maxRecDepth 100000 in
set_option maxRecDepth 100000 in
set_option maxHeartbeats 4000000 in
theorem sameTerm_raw (w : World) (k n : Int) (g : Bool) (A : Option Addr) (ln lc : Nat) (u : Int) (s : ByteArray) (B : Option Addr) (m d : Nat) (A' : Option Addr) (lc' : Nat) (B' : Option Addr) (d' : Nat) (l : List Nat) (ts : List Tm)
    (ih : ∀ t ∈ ts, ∀ (w : World) (r r' : TR), TV w r t → TV w r' t → Calls Try.prog 18 #[.agg #[.int .i64 r.k, .int .i64 r.n, .bool r.g, .slice r.A r.ln r.lc, .int .u64 r.u, .string r.s, .slice r.B r.m r.d], .agg #[.int .i64 r'.k, .int .i64 r'.n, .bool r'.g, .slice r'.A r'.ln r'.lc, .int .u64 r'.u, .string r'.s, .slice r'.B r'.m r'.d]] w fun e w' => e = .returned (.bool true) ∧ Below w.heap.size w w')
    (hl : Lim w A ln lc l) (hc : lc ≤ maxLen) (hl' : Lim w A' ln lc' l) (hc' : lc' ≤ maxLen) (hts : TVs w B m d ts) (hts' : TVs w B' m d' ts) :
    Calls Try.prog 18 #[.agg #[.int .i64 k, .int .i64 n, .bool g, .slice A ln lc, .int .u64 u, .string s, .slice B m d], .agg #[.int .i64 k, .int .i64 n, .bool g, .slice A' ln lc', .int .u64 u, .string s, .slice B' m d']] w fun e w' => e = .returned (.bool true) ∧ Below w.heap.size w w' := by
  have IH := Lib.hid ih
  clear ih
  have hb0 := ((Below.refl w.heap.size w).alloc (Nat.le_refl _) (.cells #[.int .i64 (TR.mk k n g A ln lc u s B m d).k, .int .i64 (TR.mk k n g A ln lc u s B m d).n, .bool (TR.mk k n g A ln lc u s B m d).g, .slice (TR.mk k n g A ln lc u s B m d).A (TR.mk k n g A ln lc u s B m d).ln (TR.mk k n g A ln lc u s B m d).lc, .int .u64 (TR.mk k n g A ln lc u s B m d).u, .string (TR.mk k n g A ln lc u s B m d).s, .slice (TR.mk k n g A ln lc u s B m d).B (TR.mk k n g A ln lc u s B m d).m (TR.mk k n g A ln lc u s B m d).d] 28)).alloc (by simp) (.cells #[.int .i64 (TR.mk k n g A' ln lc' u s B' m d').k, .int .i64 (TR.mk k n g A' ln lc' u s B' m d').n, .bool (TR.mk k n g A' ln lc' u s B' m d').g, .slice (TR.mk k n g A' ln lc' u s B' m d').A (TR.mk k n g A' ln lc' u s B' m d').ln (TR.mk k n g A' ln lc' u s B' m d').lc, .int .u64 (TR.mk k n g A' ln lc' u s B' m d').u, .string (TR.mk k n g A' ln lc' u s B' m d').s, .slice (TR.mk k n g A' ln lc' u s B' m d').B (TR.mk k n g A' ln lc' u s B' m d').m (TR.mk k n g A' ln lc' u s B' m d').d] 28)
  have hx := (Box7.new w (TR.mk k n g A ln lc u s B m d)).below ((Below.refl _ _).alloc (Nat.le_refl _) (.cells #[.int .i64 (TR.mk k n g A' ln lc' u s B' m d').k, .int .i64 (TR.mk k n g A' ln lc' u s B' m d').n, .bool (TR.mk k n g A' ln lc' u s B' m d').g, .slice (TR.mk k n g A' ln lc' u s B' m d').A (TR.mk k n g A' ln lc' u s B' m d').ln (TR.mk k n g A' ln lc' u s B' m d').lc, .int .u64 (TR.mk k n g A' ln lc' u s B' m d').u, .string (TR.mk k n g A' ln lc' u s B' m d').s, .slice (TR.mk k n g A' ln lc' u s B' m d').B (TR.mk k n g A' ln lc' u s B' m d').m (TR.mk k n g A' ln lc' u s B' m d').d] 28))
  have hy := Box7.new (w.alloc (.cells #[.int .i64 (TR.mk k n g A ln lc u s B m d).k, .int .i64 (TR.mk k n g A ln lc u s B m d).n, .bool (TR.mk k n g A ln lc u s B m d).g, .slice (TR.mk k n g A ln lc u s B m d).A (TR.mk k n g A ln lc u s B m d).ln (TR.mk k n g A ln lc u s B m d).lc, .int .u64 (TR.mk k n g A ln lc u s B m d).u, .string (TR.mk k n g A ln lc u s B m d).s, .slice (TR.mk k n g A ln lc u s B m d).B (TR.mk k n g A ln lc u s B m d).m (TR.mk k n g A ln lc u s B m d).d] 28)) (TR.mk k n g A' ln lc' u s B' m d')
  rw [World.size_alloc] at hy
  have hl0 := hl.below hb0
  have hl0' := hl'.below hb0
  have t0 := hts.below hb0
  have t0' := hts'.below hb0
  clear hl hl' hts hts'
  go_enter Try.func18, Try.ntmps18
  go_wp2_with fail
  generalize (w.alloc (.cells #[.int .i64 (TR.mk k n g A ln lc u s B m d).k, .int .i64 (TR.mk k n g A ln lc u s B m d).n, .bool (TR.mk k n g A ln lc u s B m d).g, .slice (TR.mk k n g A ln lc u s B m d).A (TR.mk k n g A ln lc u s B m d).ln (TR.mk k n g A ln lc u s B m d).lc, .int .u64 (TR.mk k n g A ln lc u s B m d).u, .string (TR.mk k n g A ln lc u s B m d).s, .slice (TR.mk k n g A ln lc u s B m d).B (TR.mk k n g A ln lc u s B m d).m (TR.mk k n g A ln lc u s B m d).d] 28)).alloc (.cells #[.int .i64 (TR.mk k n g A' ln lc' u s B' m d').k, .int .i64 (TR.mk k n g A' ln lc' u s B' m d').n, .bool (TR.mk k n g A' ln lc' u s B' m d').g, .slice (TR.mk k n g A' ln lc' u s B' m d').A (TR.mk k n g A' ln lc' u s B' m d').ln (TR.mk k n g A' ln lc' u s B' m d').lc, .int .u64 (TR.mk k n g A' ln lc' u s B' m d').u, .string (TR.mk k n g A' ln lc' u s B' m d').s, .slice (TR.mk k n g A' ln lc' u s B' m d').B (TR.mk k n g A' ln lc' u s B' m d').m (TR.mk k n g A' ln lc' u s B' m d').d] 28) = W at *
  refine (sameNum_any W g g A A' ln lc ln lc' l l hl0 hc hl0' hc').mono ?_
  rw [show sameB g g l l = true by simp [sameB]]
  rintro e w1 ⟨rfl, hb1⟩
  have hx1 := hx.below hb1
  have hy1 := hy.below hb1
  have y0 := hx1.at.c0; have y1 := hx1.at.c1; have y2 := hx1.at.c2; have y3 := hx1.at.c3; have y4 := hx1.at.c4; have y5 := hx1.at.c5; have y6 := hx1.at.c6; have x0 := hy1.at.c0; have x1 := hy1.at.c1; have x2 := hy1.at.c2; have x3 := hy1.at.c3; have x4 := hy1.at.c4; have x5 := hy1.at.c5; have x6 := hy1.at.c6
  go_wp2_with fail
  refine (sameTerms_of ts IH.out w1 B m d (t0.below hb1) B' d' (t0'.below hb1)).mono ?_
  rintro e w2 ⟨rfl, hb2⟩
  have b1 := hb0.trans (hb1.mono hb0.size)
  go_wp2
  go_ret
  exact ⟨rfl, b1.trans (hb2.mono b1.size)⟩
set_option maxRecDepth 100000 in
theorem sameTerm_eq (t : Tm) : ∀ (w : World) (r r' : TR), TV w r t → TV w r' t → Calls Try.prog 18 #[.agg #[.int .i64 r.k, .int .i64 r.n, .bool r.g, .slice r.A r.ln r.lc, .int .u64 r.u, .string r.s, .slice r.B r.m r.d], .agg #[.int .i64 r'.k, .int .i64 r'.n, .bool r'.g, .slice r'.A r'.ln r'.lc, .int .u64 r'.u, .string r'.s, .slice r'.B r'.m r'.d]] w fun e w' => e = .returned (.bool true) ∧ Below w.heap.size w w' := by
  induction t using Tm.ind with
  | h k n g l u s ks ih =>
    intro w r r' h h'
    have hks : (Tm.mk k n g l u s ks).args = ks := rfl
    rw [← hks] at ih
    generalize Tm.mk k n g l u s ks = t at *
    have e1 := h.kind.symm.trans h'.kind
    have e2 := h.num.symm.trans h'.num
    have e3 := h.neg.symm.trans h'.neg
    have e4 := h.bits.symm.trans h'.bits
    have e5 := h.bytes.symm.trans h'.bytes
    have e6 := h.len.symm.trans h'.len
    have e7 := h.magLen.symm.trans h'.magLen
    have h1 := h.flat.lim
    have h2 := h.flat.cap
    have h3 := h'.flat.lim
    have h4 := h'.flat.cap
    have h5 := h.args
    have h6 := h'.args
    rw [← e1, ← e2, ← e3, ← e4, ← e5, ← e6, ← e7]
    rw [← e7] at h3
    rw [← e6] at h6
    exact sameTerm_raw w r.k r.n r.g r.A r.ln r.lc r.u r.s r.B r.m r.d r'.A r'.lc r'.B r'.d t.mag t.args ih h1 h2 h3 h4 h5 h6
end Go.Proofs.Ytomohdfcggghoaa

namespace Go.Proofs.Ytomohdfcggghoaa
open Go.RowKit

set_option maxRecDepth 100000 in
theorem ofT_ok {g : Bool} {l : List Nat} (h : l.length ≤ 40) : (ofT g l).Ok := by
  unfold ofT
  split
  · simp [Tm.Ok, Tm.Oks, ByteArray.size]
  split
  · simp [Tm.Ok, Tm.Oks, ByteArray.size]; omega
  · simp [Tm.Ok, Tm.Oks, ByteArray.size]
set_option maxRecDepth 100000 in
theorem ofT_may {g : Bool} {l : List Nat} (h : mayB g l = true) : (ofT g l).mayB = true := by
  have hl := mayB_len h
  unfold ofT
  cases hs : smOk g l with
  | true =>
    rw [if_pos rfl]
    have hz : smallB (smZ g l) = true := by
      unfold smZ
      unfold smOk at hs
      rw [if_pos hs]
      simp only [Bool.and_eq_true] at hs
      exact hs.2
    generalize smZ g l = z at hz
    unfold smallB at hz
    have h1 : (Tm.mk 1 z false [] 0 ⟨#[]⟩ []).cap = 1 := by simp [Tm.cap, Tm.wt]
    have h2 : (Tm.mk 1 z false [] 0 ⟨#[]⟩ []).formB = true := by
      simp only [Bool.and_eq_true, decide_eq_true_eq] at hz
      simp [Tm.formB, Tm.formsB, Tm.alikeB, Tm.ment, Tm.boundB, Tm.kind, Tm.num, Tm.args, Tm.mag, Tm.neg, Tm.bits, Tm.bytes, hz]
    rw [Tm.mayB, h1, h2]; rfl
  | false =>
    rw [if_neg (by decide), if_pos h]
    have h1 : (Tm.mk 2 0 g l 0 ⟨#[]⟩ []).cap ≤ 300 := by simp [Tm.cap, Tm.wt]; omega
    have h2 : (Tm.mk 2 0 g l 0 ⟨#[]⟩ []).formB = true := by
      simp [Tm.formB, Tm.formsB, Tm.alikeB, Tm.ment, Tm.boundB, Tm.kind, Tm.num, Tm.args, Tm.mag, Tm.neg, Tm.bits, Tm.bytes, h, hs]
    rw [Tm.mayB, h2, decide_eq_true h1]; rfl

/-- What Num leaves, of the term of an integer that may be. -/
def NumP (w : World) (g : Bool) (l : List Nat) (e : Ending) (w' : World) : Prop :=
  ∃ A c, e = .returned (.tuple #[.agg #[.bool g, .slice A l.length c], .bool true]) ∧ Own w' w.heap.size A l.length c l ∧ Below w.heap.size w w'

set_option maxRecDepth 100000 in
theorem Box.put2 {w : World} {g : Nat} {x y x' y' : Value} (h : Box w g x y) : Box ((w.setCell ⟨g, 0, none⟩ x').setCell ⟨g, 1, none⟩ y') g x' y' := by
  unfold Box at h ⊢; simp [World.setCell, Array.getElem?_modify, h]

end Go.Proofs.Ytomohdfcggghoaa
