/-
  THE WALK OF WireJoins.
-/
import Derived.Test.YtomohdfcggghoaaJ11
namespace Go.Proofs.Ytomohdfcggghoaa
open Go.RowKit

set_option maxRecDepth 100000 in
theorem wpList_append_want {P : Program} {w w' : World} {ops : Array Oper} {rest : List Oper} {o : Oper} {a : Act} {Q : Exit → Act → World → Prop} (hw : Region.wanted o (yielded ops a.tmps) = true) (s x : Operand) (t : TypeId)
    (ho : o.op = .call { callee := .builtin .append, args := #[s, x], argTypes := #[t, t] }) (v y v' : Value) (hs : a.eval s = v) (hx : a.eval x = y)
    (hrun : (Builtin.append_ #[t, t] o.type #[v, y]).run P w = .ok v' w') (h : wpList P ops Q rest (a.put o.dst v') w') : wpList P ops Q (o :: rest) a w := by
  refine wpList_step fun K hK' => ?_
  rw [if_pos hw]
  unfold Oper.wp
  simp [execOp, ho, resolve, invoke, builtin, hs, hx, hrun, Result.andThen]
  exact hK' _ _ h

/-- Bytes that are joined in a row of their own. -/
structure Jn (v x : World) (X : Option Addr) (n e : Nat) (l : List Nat) : Prop where
  ow : Bo x v.heap.size X n e l
  be : Below v.heap.size v x
set_option maxRecDepth 100000 in
theorem Jn.start (v : World) (xs : List Nat) (hx : Wr.Small xs) (hl : xs.length ≤ 1000) (cs : Array Value) (hcs : cs = brr xs) (k : Nat) (hk : k = xs.length) : Jn v (v.alloc (.cells cs 5)) (some ⟨v.heap.size, 0, none⟩) k k xs := by
  subst hcs hk
  exact ⟨Bo.new v v.heap.size xs hx (Nat.le_refl _) (by unfold maxLen; omega), (Below.refl _ _).alloc (Nat.le_refl _) _⟩
set_option maxRecDepth 100000 in
theorem Jn.nil (v : World) : Jn v v none 0 0 [] := ⟨Bo.nil _ _, Below.refl _ _⟩
set_option maxRecDepth 100000 in
theorem Jn.app {v x : World} {X : Option Addr} {n e : Nat} {l : List Nat} (h : Jn v x X n e l) {A : Option Addr} {m c : Nat} {k : List Nat} (hy : By v A m c k) (hn : n + m ≤ 10000000) :
    ∃ X' e' x', (Builtin.append_ #[31, 31] 31 #[.slice X n e, .slice A m c]).run Try.prog x = .ok (.slice X' (n + m) e') x' ∧ Jn v x' X' (n + m) e' (l ++ k) := by
  obtain ⟨X', e', x', hr, hO, hG⟩ := h.ow.app A m c k (hy.below h.be) hn h.be.size 31
  exact ⟨X', e', x', hr, hO, h.be.trans (hG.below h.ow h.be.size)⟩

/-- Two variables that hold terms, and the world's own. -/
structure Tv2 (w : World) (r : TR) (t : Tm) (r' : TR) (t' : Tm) (W : World) : Prop where
  b1 : Box7 W w.heap.size r
  b2 : Box7 W (w.heap.size + 1) r'
  t1 : TV W r t
  t2 : TV W r' t'
  be : Below w.heap.size w W
set_option maxRecDepth 100000 in
theorem Tv2.below {w : World} {r : TR} {t : Tm} {r' : TR} {t' : Tm} {W W' : World} (h : Tv2 w r t r' t' W) (hb : Below W.heap.size W W') : Tv2 w r t r' t' W' :=
  ⟨h.b1.below hb, h.b2.below hb, h.t1.bel hb, h.t2.bel hb, h.be.trans (hb.mono h.be.size)⟩
set_option maxRecDepth 100000 in
theorem Tv2.new {w : World} {r : TR} {t : Tm} {r' : TR} {t' : Tm} (h : TV w r t) (h' : TV w r' t') : Tv2 w r t r' t' ((w.alloc (.cells #[.int .i64 r.k, .int .i64 r.n, .bool r.g, .slice r.A r.ln r.lc, .int .u64 r.u, .string r.s, .slice r.B r.m r.d] 28)).alloc (.cells #[.int .i64 r'.k, .int .i64 r'.n, .bool r'.g, .slice r'.A r'.ln r'.lc, .int .u64 r'.u, .string r'.s, .slice r'.B r'.m r'.d] 28)) := by
  have b1 := (Below.refl w.heap.size w).alloc (Nat.le_refl _) (.cells #[.int .i64 r.k, .int .i64 r.n, .bool r.g, .slice r.A r.ln r.lc, .int .u64 r.u, .string r.s, .slice r.B r.m r.d] 28)
  have b2 := (Below.refl (w.alloc (.cells #[.int .i64 r.k, .int .i64 r.n, .bool r.g, .slice r.A r.ln r.lc, .int .u64 r.u, .string r.s, .slice r.B r.m r.d] 28)).heap.size (w.alloc (.cells #[.int .i64 r.k, .int .i64 r.n, .bool r.g, .slice r.A r.ln r.lc, .int .u64 r.u, .string r.s, .slice r.B r.m r.d] 28))).alloc (Nat.le_refl _) (.cells #[.int .i64 r'.k, .int .i64 r'.n, .bool r'.g, .slice r'.A r'.ln r'.lc, .int .u64 r'.u, .string r'.s, .slice r'.B r'.m r'.d] 28)
  have n := Box7.new (w.alloc (.cells #[.int .i64 r.k, .int .i64 r.n, .bool r.g, .slice r.A r.ln r.lc, .int .u64 r.u, .string r.s, .slice r.B r.m r.d] 28)) r'
  rw [World.size_alloc] at n
  exact ⟨(Box7.new w r).below b2, n, (h.bel b1).bel b2, (h'.bel b1).bel b2, b1.trans (b2.mono b1.size)⟩
set_option maxRecDepth 100000 in
/-- A row of three terms, newly made. -/
theorem TVs.three {w : World} {r r' s : TR} {t t' u : Tm} (h : TV w r t) (h' : TV w r' t') (k : TV w s u) :
    TVs (w.alloc (.cells #[.int .i64 r.k, .int .i64 r.n, .bool r.g, .slice r.A r.ln r.lc, .int .u64 r.u, .string r.s, .slice r.B r.m r.d, .int .i64 r'.k, .int .i64 r'.n, .bool r'.g, .slice r'.A r'.ln r'.lc, .int .u64 r'.u, .string r'.s, .slice r'.B r'.m r'.d, .int .i64 s.k, .int .i64 s.n, .bool s.g, .slice s.A s.ln s.lc, .int .u64 s.u, .string s.s, .slice s.B s.m s.d] 28)) (some ⟨w.heap.size, 0, none⟩) 3 3 [t, t', u] := by
  refine ⟨rfl, Nat.le_refl _, by decide, fun i => if i = 0 then r else if i = 1 then r' else s, fun _ => ⟨w.heap.size, 0, rfl, by simp, fun i hi => ?_⟩, fun i x e => ?_⟩
  · have : i = 0 ∨ i = 1 ∨ i = 2 := by omega
    rcases this with rfl | rfl | rfl
    all_goals
      refine At7.of fun j hj => ?_
      rw [add_none, World.cell?_alloc_at _ _ _ _ rfl]
      have : j = 0 ∨ j = 1 ∨ j = 2 ∨ j = 3 ∨ j = 4 ∨ j = 5 ∨ j = 6 := by omega
      rcases this with rfl | rfl | rfl | rfl | rfl | rfl | rfl <;> rfl
  · have hb := (Below.refl w.heap.size w).alloc (Nat.le_refl _) (.cells #[.int .i64 r.k, .int .i64 r.n, .bool r.g, .slice r.A r.ln r.lc, .int .u64 r.u, .string r.s, .slice r.B r.m r.d, .int .i64 r'.k, .int .i64 r'.n, .bool r'.g, .slice r'.A r'.ln r'.lc, .int .u64 r'.u, .string r'.s, .slice r'.B r'.m r'.d, .int .i64 s.k, .int .i64 s.n, .bool s.g, .slice s.A s.ln s.lc, .int .u64 s.u, .string s.s, .slice s.B s.m s.d] 28)
    match i, e with
    | 0, e => simp at e; rw [← e]; exact h.bel hb
    | 1, e => simp at e; rw [← e]; exact h'.bel hb
    | 2, e => simp at e; rw [← e]; exact k.bel hb
    | i + 3, e => simp at e
set_option maxRecDepth 100000 in
theorem great_ok {t : Tm} {most : Int} (h : greatB [t] most = false) : t.Ok := (greatB_no h).2 t (by simp)
def tPair (t t' : Tm) : Tm := .mk 8 0 false [] 0 ⟨#[]⟩ [t, t']
def tTri (t t' u : Tm) : Tm := .mk 6 0 false [] 0 ⟨#[]⟩ [t, t', u]
set_option maxRecDepth 100000 in
theorem tPair_enc (t t' : Tm) : Wr.enc (tPair t t') = [8] ++ Wr.enc t ++ Wr.enc t' := by
  rw [tPair, Wr.enc, Wr.encs, Wr.encs, Wr.encs, Wr.body, if_neg (by decide), if_neg (by decide), if_neg (by decide), if_neg (by decide), if_neg (by decide), if_neg (by decide)]
  simp
set_option maxRecDepth 100000 in
theorem tTri_enc (t t' u : Tm) : Wr.enc (tTri t t' u) = [6, 3] ++ Wr.enc t ++ Wr.enc t' ++ Wr.enc u := by
  rw [tTri, Wr.enc, Wr.encs, Wr.encs, Wr.encs, Wr.encs, Wr.body, if_neg (by decide), if_neg (by decide), if_neg (by decide), if_neg (by decide), if_pos (by decide)]
  simp

set_option maxRecDepth 100000 in
set_option maxRecDepth 100000 in
set_option maxHeartbeats 8000000 in
theorem wireJoins_walk (w : World) (r : TR) (t : Tm) (h : TV w r t) (r' : TR) (t' : Tm) (h' : TV w r' t') :
    Calls Try.prog 6 #[.agg #[.int .i64 r.k, .int .i64 r.n, .bool r.g, .slice r.A r.ln r.lc, .int .u64 r.u, .string r.s, .slice r.B r.m r.d], .agg #[.int .i64 r'.k, .int .i64 r'.n, .bool r'.g, .slice r'.A r'.ln r'.lc, .int .u64 r'.u, .string r'.s, .slice r'.B r'.m r'.d]] w fun e w' => e = .returned (.bool true) ∧ Below w.heap.size w w' := by
  have I := Tv2.new h h'
  clear h h'
  go_enter Try.func6, Try.ntmps6
  have y0 := I.b1.at.c0; have y1 := I.b1.at.c1; have y2 := I.b1.at.c2; have y3 := I.b1.at.c3; have y4 := I.b1.at.c4; have y5 := I.b1.at.c5; have y6 := I.b1.at.c6
  go_wp2_with fail
  clear y0 y1 y2 y3 y4 y5 y6
  generalize (w.alloc (.cells #[.int .i64 r.k, .int .i64 r.n, .bool r.g, .slice r.A r.ln r.lc, .int .u64 r.u, .string r.s, .slice r.B r.m r.d] 28)).alloc (.cells #[.int .i64 r'.k, .int .i64 r'.n, .bool r'.g, .slice r'.A r'.ln r'.lc, .int .u64 r'.u, .string r'.s, .slice r'.B r'.m r'.d] 28) = W at *
  refine (greatT_any W r t I.t1 400 (by omega) (by omega)).mono ?_
  rintro e w1 ⟨rfl, hb⟩
  have I1 := I.below hb
  clear I hb
  cases g1 : greatB [t] 400 with
  | true =>
    go_wp2_with fail
    refine (awake7 w1).mono ?_
    rintro e w2 ⟨rfl, hb⟩
    go_wp2
    go_ret
    exact ⟨rfl, (I1.below hb).be⟩
  | false =>
  have ok1 := great_ok g1
  clear g1
  have y0 := I1.b2.at.c0; have y1 := I1.b2.at.c1; have y2 := I1.b2.at.c2; have y3 := I1.b2.at.c3; have y4 := I1.b2.at.c4; have y5 := I1.b2.at.c5; have y6 := I1.b2.at.c6
  go_wp2_with fail
  clear y0 y1 y2 y3 y4 y5 y6
  refine (greatT_any w1 r' t' I1.t2 400 (by omega) (by omega)).mono ?_
  rintro e w2 ⟨rfl, hb⟩
  have I2 := I1.below hb
  clear I1 hb
  cases g2 : greatB [t'] 400 with
  | true =>
    go_wp2_with fail
    refine (awake7 w2).mono ?_
    rintro e w3 ⟨rfl, hb⟩
    go_wp2
    go_ret
    exact ⟨rfl, (I2.below hb).be⟩
  | false =>
  have ok2 := great_ok g2
  clear g2
  have y0 := I2.b1.at.c0; have y1 := I2.b1.at.c1; have y2 := I2.b1.at.c2; have y3 := I2.b1.at.c3; have y4 := I2.b1.at.c4; have y5 := I2.b1.at.c5; have y6 := I2.b1.at.c6
  go_wp2_with fail
  clear y0 y1 y2 y3 y4 y5 y6
  refine (mayTerm_any w2 r t I2.t1 ok1).mono ?_
  rintro e w3 ⟨rfl, hb⟩
  have I3 := I2.below hb
  clear I2 hb
  cases g3 : t.mayB with
  | false =>
    go_wp2_with fail
    refine (awake7 w3).mono ?_
    rintro e w4 ⟨rfl, hb⟩
    go_wp2
    go_ret
    exact ⟨rfl, (I3.below hb).be⟩
  | true =>
  have y0 := I3.b2.at.c0; have y1 := I3.b2.at.c1; have y2 := I3.b2.at.c2; have y3 := I3.b2.at.c3; have y4 := I3.b2.at.c4; have y5 := I3.b2.at.c5; have y6 := I3.b2.at.c6
  go_wp2_with fail
  clear y0 y1 y2 y3 y4 y5 y6
  refine (mayTerm_any w3 r' t' I3.t2 ok2).mono ?_
  rintro e w4 ⟨rfl, hb⟩
  have I4 := I3.below hb
  clear I3 hb
  cases g4 : t'.mayB with
  | false =>
    go_wp2_with fail
    refine (awake7 w4).mono ?_
    rintro e w5 ⟨rfl, hb⟩
    go_wp2
    go_ret
    exact ⟨rfl, (I4.below hb).be⟩
  | true =>
  have y0 := I4.b1.at.c0; have y1 := I4.b1.at.c1; have y2 := I4.b1.at.c2; have y3 := I4.b1.at.c3; have y4 := I4.b1.at.c4; have y5 := I4.b1.at.c5; have y6 := I4.b1.at.c6
  have x0 := I4.b2.at.c0; have x1 := I4.b2.at.c1; have x2 := I4.b2.at.c2; have x3 := I4.b2.at.c3; have x4 := I4.b2.at.c4; have x5 := I4.b2.at.c5; have x6 := I4.b2.at.c6
  have okp : (tPair t t').Ok := Tm.ok_mk.2 ⟨by simp, by simp [ByteArray.size], by simp [ok1, ok2]⟩
  have okt : (tTri t' t t').Ok := Tm.ok_mk.2 ⟨by simp, by simp [ByteArray.size], by simp [ok1, ok2]⟩
  have ts2 := TVs.two I4.t1 I4.t2
  have a1 := (Below.refl w4.heap.size w4).alloc (Nat.le_refl _) (.cells #[.int .i64 r.k, .int .i64 r.n, .bool r.g, .slice r.A r.ln r.lc, .int .u64 r.u, .string r.s, .slice r.B r.m r.d, .int .i64 r'.k, .int .i64 r'.n, .bool r'.g, .slice r'.A r'.ln r'.lc, .int .u64 r'.u, .string r'.s, .slice r'.B r'.m r'.d] 28)
  have tp : TV (w4.alloc (.cells #[.int .i64 r.k, .int .i64 r.n, .bool r.g, .slice r.A r.ln r.lc, .int .u64 r.u, .string r.s, .slice r.B r.m r.d, .int .i64 r'.k, .int .i64 r'.n, .bool r'.g, .slice r'.A r'.ln r'.lc, .int .u64 r'.u, .string r'.s, .slice r'.B r'.m r'.d] 28)) (mkR 8 0 0 ⟨#[]⟩ (some ⟨w4.heap.size, 0, none⟩) 2 2) (tPair t t') := TV.node ts2 (by omega) (by omega) (by omega) (by omega) (by omega) (by omega) (by decide)
  have Vp := Vm.new tp
  have a2 := (Below.refl (w4.alloc (.cells #[.int .i64 r.k, .int .i64 r.n, .bool r.g, .slice r.A r.ln r.lc, .int .u64 r.u, .string r.s, .slice r.B r.m r.d, .int .i64 r'.k, .int .i64 r'.n, .bool r'.g, .slice r'.A r'.ln r'.lc, .int .u64 r'.u, .string r'.s, .slice r'.B r'.m r'.d] 28)).heap.size (w4.alloc (.cells #[.int .i64 r.k, .int .i64 r.n, .bool r.g, .slice r.A r.ln r.lc, .int .u64 r.u, .string r.s, .slice r.B r.m r.d, .int .i64 r'.k, .int .i64 r'.n, .bool r'.g, .slice r'.A r'.ln r'.lc, .int .u64 r'.u, .string r'.s, .slice r'.B r'.m r'.d] 28))).alloc (Nat.le_refl _) (.cells #[.int .i64 8, .int .i64 0, .bool false, .slice none 0 0, .int .u64 0, .string ⟨#[]⟩, .slice (some ⟨w4.heap.size, 0, none⟩) 2 2] 28)
  have I5 := (I4.below a1).below a2
  rw [World.size_alloc] at Vp
  go_upto_region 4 with fail
  clear y0 y1 y2 y3 y4 y5 y6 x0 x1 x2 x3 x4 x5 x6 ts2 tp a1 a2 I4
  have Vp' : Vm ((w4.alloc (.cells #[.int .i64 r.k, .int .i64 r.n, .bool r.g, .slice r.A r.ln r.lc, .int .u64 r.u, .string r.s, .slice r.B r.m r.d, .int .i64 r'.k, .int .i64 r'.n, .bool r'.g, .slice r'.A r'.ln r'.lc, .int .u64 r'.u, .string r'.s, .slice r'.B r'.m r'.d] 28)).alloc (.cells #[.int .i64 8, .int .i64 0, .bool false, .slice none 0 0, .int .u64 0, .string ⟨#[]⟩, .slice (some ⟨w4.heap.size, 0, none⟩) 2 2] 28)) (w4.heap.size + 1) (mkR 8 0 0 ⟨#[]⟩ (some ⟨w4.heap.size, 0, none⟩) 2 2) (tPair t t') := Vp
  clear Vp
  generalize (w4.alloc (.cells #[.int .i64 r.k, .int .i64 r.n, .bool r.g, .slice r.A r.ln r.lc, .int .u64 r.u, .string r.s, .slice r.B r.m r.d, .int .i64 r'.k, .int .i64 r'.n, .bool r'.g, .slice r'.A r'.ln r'.lc, .int .u64 r'.u, .string r'.s, .slice r'.B r'.m r'.d] 28)).alloc (.cells #[.int .i64 8, .int .i64 0, .bool false, .slice none 0 0, .int .u64 0, .string ⟨#[]⟩, .slice (some ⟨w4.heap.size, 0, none⟩) 2 2] 28) = W5 at *
  generalize w4.heap.size = L4 at *
  have y0 := I5.b1.at.c0; have y1 := I5.b1.at.c1; have y2 := I5.b1.at.c2; have y3 := I5.b1.at.c3; have y4 := I5.b1.at.c4; have y5 := I5.b1.at.c5; have y6 := I5.b1.at.c6
  have x0 := I5.b2.at.c0; have x1 := I5.b2.at.c1; have x2 := I5.b2.at.c2; have x3 := I5.b2.at.c3; have x4 := I5.b2.at.c4; have x5 := I5.b2.at.c5; have x6 := I5.b2.at.c6
  have ts3 := TVs.three I5.t2 I5.t1 I5.t2
  have a1 := (Below.refl W5.heap.size W5).alloc (Nat.le_refl _) (.cells #[.int .i64 r'.k, .int .i64 r'.n, .bool r'.g, .slice r'.A r'.ln r'.lc, .int .u64 r'.u, .string r'.s, .slice r'.B r'.m r'.d, .int .i64 r.k, .int .i64 r.n, .bool r.g, .slice r.A r.ln r.lc, .int .u64 r.u, .string r.s, .slice r.B r.m r.d, .int .i64 r'.k, .int .i64 r'.n, .bool r'.g, .slice r'.A r'.ln r'.lc, .int .u64 r'.u, .string r'.s, .slice r'.B r'.m r'.d] 28)
  have tp : TV (W5.alloc (.cells #[.int .i64 r'.k, .int .i64 r'.n, .bool r'.g, .slice r'.A r'.ln r'.lc, .int .u64 r'.u, .string r'.s, .slice r'.B r'.m r'.d, .int .i64 r.k, .int .i64 r.n, .bool r.g, .slice r.A r.ln r.lc, .int .u64 r.u, .string r.s, .slice r.B r.m r.d, .int .i64 r'.k, .int .i64 r'.n, .bool r'.g, .slice r'.A r'.ln r'.lc, .int .u64 r'.u, .string r'.s, .slice r'.B r'.m r'.d] 28)) (mkR 6 0 0 ⟨#[]⟩ (some ⟨W5.heap.size, 0, none⟩) 3 3) (tTri t' t t') := TV.node ts3 (by omega) (by omega) (by omega) (by omega) (by omega) (by omega) (by decide)
  have Vt := Vm.new tp
  have a2 := (Below.refl (W5.alloc (.cells #[.int .i64 r'.k, .int .i64 r'.n, .bool r'.g, .slice r'.A r'.ln r'.lc, .int .u64 r'.u, .string r'.s, .slice r'.B r'.m r'.d, .int .i64 r.k, .int .i64 r.n, .bool r.g, .slice r.A r.ln r.lc, .int .u64 r.u, .string r.s, .slice r.B r.m r.d, .int .i64 r'.k, .int .i64 r'.n, .bool r'.g, .slice r'.A r'.ln r'.lc, .int .u64 r'.u, .string r'.s, .slice r'.B r'.m r'.d] 28)).heap.size (W5.alloc (.cells #[.int .i64 r'.k, .int .i64 r'.n, .bool r'.g, .slice r'.A r'.ln r'.lc, .int .u64 r'.u, .string r'.s, .slice r'.B r'.m r'.d, .int .i64 r.k, .int .i64 r.n, .bool r.g, .slice r.A r.ln r.lc, .int .u64 r.u, .string r.s, .slice r.B r.m r.d, .int .i64 r'.k, .int .i64 r'.n, .bool r'.g, .slice r'.A r'.ln r'.lc, .int .u64 r'.u, .string r'.s, .slice r'.B r'.m r'.d] 28))).alloc (Nat.le_refl _) (.cells #[.int .i64 6, .int .i64 0, .bool false, .slice none 0 0, .int .u64 0, .string ⟨#[]⟩, .slice (some ⟨W5.heap.size, 0, none⟩) 3 3] 28)
  have I6 := (I5.below a1).below a2
  have Vp6 := (Vp'.below a1).below a2
  rw [World.size_alloc] at Vt
  go_upto_region 5 with fail
  clear y0 y1 y2 y3 y4 y5 y6 x0 x1 x2 x3 x4 x5 x6 ts3 tp a1 a2 I5 Vp'
  have Vt6 : Vm ((W5.alloc (.cells #[.int .i64 r'.k, .int .i64 r'.n, .bool r'.g, .slice r'.A r'.ln r'.lc, .int .u64 r'.u, .string r'.s, .slice r'.B r'.m r'.d, .int .i64 r.k, .int .i64 r.n, .bool r.g, .slice r.A r.ln r.lc, .int .u64 r.u, .string r.s, .slice r.B r.m r.d, .int .i64 r'.k, .int .i64 r'.n, .bool r'.g, .slice r'.A r'.ln r'.lc, .int .u64 r'.u, .string r'.s, .slice r'.B r'.m r'.d] 28)).alloc (.cells #[.int .i64 6, .int .i64 0, .bool false, .slice none 0 0, .int .u64 0, .string ⟨#[]⟩, .slice (some ⟨W5.heap.size, 0, none⟩) 3 3] 28)) (W5.heap.size + 1) (mkR 6 0 0 ⟨#[]⟩ (some ⟨W5.heap.size, 0, none⟩) 3 3) (tTri t' t t') := Vt
  clear Vt
  generalize (W5.alloc (.cells #[.int .i64 r'.k, .int .i64 r'.n, .bool r'.g, .slice r'.A r'.ln r'.lc, .int .u64 r'.u, .string r'.s, .slice r'.B r'.m r'.d, .int .i64 r.k, .int .i64 r.n, .bool r.g, .slice r.A r.ln r.lc, .int .u64 r.u, .string r.s, .slice r.B r.m r.d, .int .i64 r'.k, .int .i64 r'.n, .bool r'.g, .slice r'.A r'.ln r'.lc, .int .u64 r'.u, .string r'.s, .slice r'.B r'.m r'.d] 28)).alloc (.cells #[.int .i64 6, .int .i64 0, .bool false, .slice none 0 0, .int .u64 0, .string ⟨#[]⟩, .slice (some ⟨W5.heap.size, 0, none⟩) 3 3] 28) = W6 at *
  generalize W5.heap.size = L5 at *
  obtain ⟨Rp, hRp⟩ : ∃ R, R = mkR 8 0 0 ⟨#[]⟩ (some ⟨L4, 0, none⟩) 2 2 := ⟨_, rfl⟩
  obtain ⟨Rt, hRt⟩ : ∃ R, R = mkR 6 0 0 ⟨#[]⟩ (some ⟨L5, 0, none⟩) 3 3 := ⟨_, rfl⟩
  rw [← hRp] at Vp6
  rw [← hRt] at Vt6
  clear hRp hRt
  have sh1 := Wr.enc_short t (Wr.may_size g3).1
  have sh2 := Wr.enc_short t' (Wr.may_size g4).1
  have sz1 := (Wr.may_size g3).2
  have sz2 := (Wr.may_size g4).2
  have y0 := I6.b1.at.c0; have y1 := I6.b1.at.c1; have y2 := I6.b1.at.c2; have y3 := I6.b1.at.c3; have y4 := I6.b1.at.c4; have y5 := I6.b1.at.c5; have y6 := I6.b1.at.c6
  go_wp2_with fail
  clear y0 y1 y2 y3 y4 y5 y6
  refine (lay_yes W6 r t I6.t1 ok1 g3).mono ?_
  rintro e v1 ⟨A1, c1, rfl, B1, hb⟩
  have I7 := I6.below hb
  have Vp7 := Vp6.below hb
  have Vt7 := Vt6.below hb
  have B1' := B1.mono (base' := w.heap.size) I6.be.size
  clear I6 Vp6 Vt6 hb B1
  have y0 := I7.b2.at.c0; have y1 := I7.b2.at.c1; have y2 := I7.b2.at.c2; have y3 := I7.b2.at.c3; have y4 := I7.b2.at.c4; have y5 := I7.b2.at.c5; have y6 := I7.b2.at.c6
  go_wp2_with fail
  clear y0 y1 y2 y3 y4 y5 y6
  refine (lay_yes v1 r' t' I7.t2 ok2 g4).mono ?_
  rintro e v2 ⟨A2, c2, rfl, B2, hb⟩
  have I8 := I7.below hb
  have Vp8 := Vp7.below hb
  have Vt8 := Vt7.below hb
  have B1 := B1'.below hb
  have B2' := B2.mono (base' := w.heap.size) I7.be.size
  clear I7 Vp7 Vt7 hb B1' B2
  cases gp : (tPair t t').mayB with
  | true =>
    cases gt : (tTri t' t t').mayB with
    | true =>
      have y0 := Vp8.bx.at.c0; have y1 := Vp8.bx.at.c1; have y2 := Vp8.bx.at.c2; have y3 := Vp8.bx.at.c3; have y4 := Vp8.bx.at.c4; have y5 := Vp8.bx.at.c5; have y6 := Vp8.bx.at.c6
      go_wp2_with fail
      clear y0 y1 y2 y3 y4 y5 y6
      refine (lay_yes v2 Rp _ Vp8.tv okp gp).mono ?_
      rintro e v3 ⟨A3, c3, rfl, B3, hb⟩
      have I9 := I8.below hb
      have Vp9 := Vp8.below hb
      have Vt9 := Vt8.below hb
      have B1a := B1.below hb
      have B2a := B2'.below hb
      clear I8 Vp8 Vt8 hb B1 B2'
      have y0 := Vt9.bx.at.c0; have y1 := Vt9.bx.at.c1; have y2 := Vt9.bx.at.c2; have y3 := Vt9.bx.at.c3; have y4 := Vt9.bx.at.c4; have y5 := Vt9.bx.at.c5; have y6 := Vt9.bx.at.c6
      go_wp2_with fail
      clear y0 y1 y2 y3 y4 y5 y6
      refine (lay_yes v3 Rt _ Vt9.tv okt gt).mono ?_
      rintro e v4 ⟨A4, c4, rfl, B4, hb⟩
      have Ia := I9.below hb
      have Vpa := Vp9.below hb
      have Vta := Vt9.below hb
      have B1b := B1a.below hb
      have B2b := B2a.below hb
      have B3b := B3.below hb
      clear B3
      clear I9 Vp9 Vt9 hb B1a B2a
      have y0 := Vpa.bx.at.c0; have y1 := Vpa.bx.at.c1; have y2 := Vpa.bx.at.c2; have y3 := Vpa.bx.at.c3; have y4 := Vpa.bx.at.c4; have y5 := Vpa.bx.at.c5; have y6 := Vpa.bx.at.c6
      go_wp2_with fail
      clear y0 y1 y2 y3 y4 y5 y6
      refine (mayTerm_any v4 Rp _ Vpa.tv okp).mono ?_
      rw [gp]
      rintro e v5 ⟨rfl, hb⟩
      have Ib := Ia.below hb
      have Vtb := Vta.below hb
      have B1c := B1b.below hb
      have B2c := B2b.below hb
      have B3c := B3b.below hb
      clear B3b
      have B4c := B4.below hb
      clear B4
      clear Ia Vpa Vta hb B1b B2b
      have y0 := Vtb.bx.at.c0; have y1 := Vtb.bx.at.c1; have y2 := Vtb.bx.at.c2; have y3 := Vtb.bx.at.c3; have y4 := Vtb.bx.at.c4; have y5 := Vtb.bx.at.c5; have y6 := Vtb.bx.at.c6
      go_wp2_with fail
      clear y0 y1 y2 y3 y4 y5 y6
      refine (mayTerm_any v5 Rt _ Vtb.tv okt).mono ?_
      rw [gt]
      rintro e v6 ⟨rfl, hb⟩
      have be := (Ib.below hb).be
      have C1 := (B1c.below hb).by
      have C2 := (B2c.below hb).by
      have C3 := B3c.below hb
      clear B3c
      have C4 := B4c.below hb
      clear B4c
      clear Ib Vtb hb B1c B2c
      have J0 := Jn.start v6 [8] (by intro x hx; simp at hx; omega) (by decide) #[.int .u8 8] rfl 1 rfl
      obtain ⟨X1, e1, x1, hr1, J1⟩ := J0.app C1 (by omega)
      obtain ⟨X2, e2, x2, hr2, J2⟩ := J1.app C2 (by omega)
      have H1 := Lib.hid hr1
      have H2 := Lib.hid hr2
      have F := J2.ow
      have Fb := J2.be
      have F3 := C3.below Fb
      have be2 := be.trans (Fb.mono be.size)
      have D1 := C1.below Fb
      have D2 := C2.below Fb
      have D4 := C4.below Fb
      clear C4
      clear J0 J1 J2 hr1 hr2 C1 C2 C3 be Fb
      go_wp2_with (at_builtin; first | (refine wpList_append_want (by go_simp) _ _ _ rfl _ _ _ rfl rfl H1.out ?_; clear H1) | (refine wpList_append_want (by go_simp) _ _ _ rfl _ _ _ rfl rfl H2.out ?_; clear H2))
      have Q := sameB_eq x2 A3 X2 _ c3 _ e2 _ _ F3.by F3.cap' F.by F.cap' (tPair_enc t t')
      (with_reducible refine Q.mono ?_)
      clear Q F F3
      rintro e v7 ⟨rfl, hb⟩
      have be := be2.trans (hb.mono be2.size)
      have C1 := D1.below hb
      have C2 := D2.below hb
      have C4 := D4.below hb
      clear D4
      clear be2 D1 D2 hb
      have J0 := Jn.start v7 [6, 3] (by intro x hx; simp at hx; omega) (by decide) #[.int .u8 6, .int .u8 3] rfl 2 rfl
      obtain ⟨X1, e1, x1, hr1, J1⟩ := J0.app C2 (by omega)
      obtain ⟨X2, e2, x2, hr2, J2⟩ := J1.app C1 (by omega)
      obtain ⟨X3, e3, x3, hr3, J3⟩ := J2.app C2 (by omega)
      have H1 := Lib.hid hr1
      have H2 := Lib.hid hr2
      have H3 := Lib.hid hr3
      have F := J3.ow
      have Fb := J3.be
      have F4 := C4.below Fb
      have be2 := be.trans (Fb.mono be.size)
      clear J0 J1 J2 J3 hr1 hr2 hr3 C1 C2 C4 be Fb
      go_wp2_with (at_builtin; first | (refine wpList_append_want (by go_simp) _ _ _ rfl _ _ _ rfl rfl H1.out ?_; clear H1) | (refine wpList_append_want (by go_simp) _ _ _ rfl _ _ _ rfl rfl H2.out ?_; clear H2) | (refine wpList_append_want (by go_simp) _ _ _ rfl _ _ _ rfl rfl H3.out ?_; clear H3))
      have Q := sameB_eq x3 A4 X3 _ c4 _ e3 _ _ F4.by F4.cap' F.by F.cap' (tTri_enc t' t t')
      (with_reducible refine Q.mono ?_)
      clear Q F F4
      rintro e v8 ⟨rfl, hb⟩
      have be := be2.trans (hb.mono be2.size)
      clear be2 hb
      go_wp2_with fail
      refine (awake7 v8).mono ?_
      rintro e v9 ⟨rfl, hb⟩
      go_wp2
      go_ret
      exact ⟨rfl, be.trans (hb.mono be.size)⟩
    | false =>
      have y0 := Vp8.bx.at.c0; have y1 := Vp8.bx.at.c1; have y2 := Vp8.bx.at.c2; have y3 := Vp8.bx.at.c3; have y4 := Vp8.bx.at.c4; have y5 := Vp8.bx.at.c5; have y6 := Vp8.bx.at.c6
      go_wp2_with fail
      clear y0 y1 y2 y3 y4 y5 y6
      refine (lay_yes v2 Rp _ Vp8.tv okp gp).mono ?_
      rintro e v3 ⟨A3, c3, rfl, B3, hb⟩
      have I9 := I8.below hb
      have Vp9 := Vp8.below hb
      have Vt9 := Vt8.below hb
      have B1a := B1.below hb
      have B2a := B2'.below hb
      clear I8 Vp8 Vt8 hb B1 B2'
      have y0 := Vt9.bx.at.c0; have y1 := Vt9.bx.at.c1; have y2 := Vt9.bx.at.c2; have y3 := Vt9.bx.at.c3; have y4 := Vt9.bx.at.c4; have y5 := Vt9.bx.at.c5; have y6 := Vt9.bx.at.c6
      go_wp2_with fail
      clear y0 y1 y2 y3 y4 y5 y6
      refine (lay_no v3 Rt _ Vt9.tv okt gt).mono ?_
      rintro e v4 ⟨rfl, hb⟩
      have Ia := I9.below hb
      have Vpa := Vp9.below hb
      have Vta := Vt9.below hb
      have B1b := B1a.below hb
      have B2b := B2a.below hb
      have B3b := B3.below hb
      clear B3
      clear I9 Vp9 Vt9 hb B1a B2a
      have y0 := Vpa.bx.at.c0; have y1 := Vpa.bx.at.c1; have y2 := Vpa.bx.at.c2; have y3 := Vpa.bx.at.c3; have y4 := Vpa.bx.at.c4; have y5 := Vpa.bx.at.c5; have y6 := Vpa.bx.at.c6
      go_wp2_with fail
      clear y0 y1 y2 y3 y4 y5 y6
      refine (mayTerm_any v4 Rp _ Vpa.tv okp).mono ?_
      rw [gp]
      rintro e v5 ⟨rfl, hb⟩
      have Ib := Ia.below hb
      have Vtb := Vta.below hb
      have B1c := B1b.below hb
      have B2c := B2b.below hb
      have B3c := B3b.below hb
      clear B3b
      clear Ia Vpa Vta hb B1b B2b
      have y0 := Vtb.bx.at.c0; have y1 := Vtb.bx.at.c1; have y2 := Vtb.bx.at.c2; have y3 := Vtb.bx.at.c3; have y4 := Vtb.bx.at.c4; have y5 := Vtb.bx.at.c5; have y6 := Vtb.bx.at.c6
      go_wp2_with fail
      clear y0 y1 y2 y3 y4 y5 y6
      refine (mayTerm_any v5 Rt _ Vtb.tv okt).mono ?_
      rw [gt]
      rintro e v6 ⟨rfl, hb⟩
      have be := (Ib.below hb).be
      have C1 := (B1c.below hb).by
      have C2 := (B2c.below hb).by
      have C3 := B3c.below hb
      clear B3c
      clear Ib Vtb hb B1c B2c
      have J0 := Jn.start v6 [8] (by intro x hx; simp at hx; omega) (by decide) #[.int .u8 8] rfl 1 rfl
      obtain ⟨X1, e1, x1, hr1, J1⟩ := J0.app C1 (by omega)
      obtain ⟨X2, e2, x2, hr2, J2⟩ := J1.app C2 (by omega)
      have H1 := Lib.hid hr1
      have H2 := Lib.hid hr2
      have F := J2.ow
      have Fb := J2.be
      have F3 := C3.below Fb
      have be2 := be.trans (Fb.mono be.size)
      have D1 := C1.below Fb
      have D2 := C2.below Fb
      clear J0 J1 J2 hr1 hr2 C1 C2 C3 be Fb
      go_wp2_with (at_builtin; first | (refine wpList_append_want (by go_simp) _ _ _ rfl _ _ _ rfl rfl H1.out ?_; clear H1) | (refine wpList_append_want (by go_simp) _ _ _ rfl _ _ _ rfl rfl H2.out ?_; clear H2))
      have Q := sameB_eq x2 A3 X2 _ c3 _ e2 _ _ F3.by F3.cap' F.by F.cap' (tPair_enc t t')
      (with_reducible refine Q.mono ?_)
      clear Q F F3
      rintro e v7 ⟨rfl, hb⟩
      have be := be2.trans (hb.mono be2.size)
      have C1 := D1.below hb
      have C2 := D2.below hb
      clear be2 D1 D2 hb
      go_wp2_with fail
      refine (awake7 v7).mono ?_
      rintro e v9 ⟨rfl, hb⟩
      go_wp2
      go_ret
      exact ⟨rfl, be.trans (hb.mono be.size)⟩
  | false =>
    cases gt : (tTri t' t t').mayB with
    | true =>
      have y0 := Vp8.bx.at.c0; have y1 := Vp8.bx.at.c1; have y2 := Vp8.bx.at.c2; have y3 := Vp8.bx.at.c3; have y4 := Vp8.bx.at.c4; have y5 := Vp8.bx.at.c5; have y6 := Vp8.bx.at.c6
      go_wp2_with fail
      clear y0 y1 y2 y3 y4 y5 y6
      refine (lay_no v2 Rp _ Vp8.tv okp gp).mono ?_
      rintro e v3 ⟨rfl, hb⟩
      have I9 := I8.below hb
      have Vp9 := Vp8.below hb
      have Vt9 := Vt8.below hb
      have B1a := B1.below hb
      have B2a := B2'.below hb
      clear I8 Vp8 Vt8 hb B1 B2'
      have y0 := Vt9.bx.at.c0; have y1 := Vt9.bx.at.c1; have y2 := Vt9.bx.at.c2; have y3 := Vt9.bx.at.c3; have y4 := Vt9.bx.at.c4; have y5 := Vt9.bx.at.c5; have y6 := Vt9.bx.at.c6
      go_wp2_with fail
      clear y0 y1 y2 y3 y4 y5 y6
      refine (lay_yes v3 Rt _ Vt9.tv okt gt).mono ?_
      rintro e v4 ⟨A4, c4, rfl, B4, hb⟩
      have Ia := I9.below hb
      have Vpa := Vp9.below hb
      have Vta := Vt9.below hb
      have B1b := B1a.below hb
      have B2b := B2a.below hb
      clear I9 Vp9 Vt9 hb B1a B2a
      have y0 := Vpa.bx.at.c0; have y1 := Vpa.bx.at.c1; have y2 := Vpa.bx.at.c2; have y3 := Vpa.bx.at.c3; have y4 := Vpa.bx.at.c4; have y5 := Vpa.bx.at.c5; have y6 := Vpa.bx.at.c6
      go_wp2_with fail
      clear y0 y1 y2 y3 y4 y5 y6
      refine (mayTerm_any v4 Rp _ Vpa.tv okp).mono ?_
      rw [gp]
      rintro e v5 ⟨rfl, hb⟩
      have Ib := Ia.below hb
      have Vtb := Vta.below hb
      have B1c := B1b.below hb
      have B2c := B2b.below hb
      have B4c := B4.below hb
      clear B4
      clear Ia Vpa Vta hb B1b B2b
      have y0 := Vtb.bx.at.c0; have y1 := Vtb.bx.at.c1; have y2 := Vtb.bx.at.c2; have y3 := Vtb.bx.at.c3; have y4 := Vtb.bx.at.c4; have y5 := Vtb.bx.at.c5; have y6 := Vtb.bx.at.c6
      go_wp2_with fail
      clear y0 y1 y2 y3 y4 y5 y6
      refine (mayTerm_any v5 Rt _ Vtb.tv okt).mono ?_
      rw [gt]
      rintro e v6 ⟨rfl, hb⟩
      have be := (Ib.below hb).be
      have C1 := (B1c.below hb).by
      have C2 := (B2c.below hb).by
      have C4 := B4c.below hb
      clear B4c
      clear Ib Vtb hb B1c B2c
      have J0 := Jn.start v6 [6, 3] (by intro x hx; simp at hx; omega) (by decide) #[.int .u8 6, .int .u8 3] rfl 2 rfl
      obtain ⟨X1, e1, x1, hr1, J1⟩ := J0.app C2 (by omega)
      obtain ⟨X2, e2, x2, hr2, J2⟩ := J1.app C1 (by omega)
      obtain ⟨X3, e3, x3, hr3, J3⟩ := J2.app C2 (by omega)
      have H1 := Lib.hid hr1
      have H2 := Lib.hid hr2
      have H3 := Lib.hid hr3
      have F := J3.ow
      have Fb := J3.be
      have F4 := C4.below Fb
      have be2 := be.trans (Fb.mono be.size)
      clear J0 J1 J2 J3 hr1 hr2 hr3 C1 C2 C4 be Fb
      go_wp2_with (at_builtin; first | (refine wpList_append_want (by go_simp) _ _ _ rfl _ _ _ rfl rfl H1.out ?_; clear H1) | (refine wpList_append_want (by go_simp) _ _ _ rfl _ _ _ rfl rfl H2.out ?_; clear H2) | (refine wpList_append_want (by go_simp) _ _ _ rfl _ _ _ rfl rfl H3.out ?_; clear H3))
      have Q := sameB_eq x3 A4 X3 _ c4 _ e3 _ _ F4.by F4.cap' F.by F.cap' (tTri_enc t' t t')
      (with_reducible refine Q.mono ?_)
      clear Q F F4
      rintro e v8 ⟨rfl, hb⟩
      have be := be2.trans (hb.mono be2.size)
      clear be2 hb
      go_wp2_with fail
      refine (awake7 v8).mono ?_
      rintro e v9 ⟨rfl, hb⟩
      go_wp2
      go_ret
      exact ⟨rfl, be.trans (hb.mono be.size)⟩
    | false =>
      have y0 := Vp8.bx.at.c0; have y1 := Vp8.bx.at.c1; have y2 := Vp8.bx.at.c2; have y3 := Vp8.bx.at.c3; have y4 := Vp8.bx.at.c4; have y5 := Vp8.bx.at.c5; have y6 := Vp8.bx.at.c6
      go_wp2_with fail
      clear y0 y1 y2 y3 y4 y5 y6
      refine (lay_no v2 Rp _ Vp8.tv okp gp).mono ?_
      rintro e v3 ⟨rfl, hb⟩
      have I9 := I8.below hb
      have Vp9 := Vp8.below hb
      have Vt9 := Vt8.below hb
      have B1a := B1.below hb
      have B2a := B2'.below hb
      clear I8 Vp8 Vt8 hb B1 B2'
      have y0 := Vt9.bx.at.c0; have y1 := Vt9.bx.at.c1; have y2 := Vt9.bx.at.c2; have y3 := Vt9.bx.at.c3; have y4 := Vt9.bx.at.c4; have y5 := Vt9.bx.at.c5; have y6 := Vt9.bx.at.c6
      go_wp2_with fail
      clear y0 y1 y2 y3 y4 y5 y6
      refine (lay_no v3 Rt _ Vt9.tv okt gt).mono ?_
      rintro e v4 ⟨rfl, hb⟩
      have Ia := I9.below hb
      have Vpa := Vp9.below hb
      have Vta := Vt9.below hb
      have B1b := B1a.below hb
      have B2b := B2a.below hb
      clear I9 Vp9 Vt9 hb B1a B2a
      have y0 := Vpa.bx.at.c0; have y1 := Vpa.bx.at.c1; have y2 := Vpa.bx.at.c2; have y3 := Vpa.bx.at.c3; have y4 := Vpa.bx.at.c4; have y5 := Vpa.bx.at.c5; have y6 := Vpa.bx.at.c6
      go_wp2_with fail
      clear y0 y1 y2 y3 y4 y5 y6
      refine (mayTerm_any v4 Rp _ Vpa.tv okp).mono ?_
      rw [gp]
      rintro e v5 ⟨rfl, hb⟩
      have Ib := Ia.below hb
      have Vtb := Vta.below hb
      have B1c := B1b.below hb
      have B2c := B2b.below hb
      clear Ia Vpa Vta hb B1b B2b
      have y0 := Vtb.bx.at.c0; have y1 := Vtb.bx.at.c1; have y2 := Vtb.bx.at.c2; have y3 := Vtb.bx.at.c3; have y4 := Vtb.bx.at.c4; have y5 := Vtb.bx.at.c5; have y6 := Vtb.bx.at.c6
      go_wp2_with fail
      clear y0 y1 y2 y3 y4 y5 y6
      refine (mayTerm_any v5 Rt _ Vtb.tv okt).mono ?_
      rw [gt]
      rintro e v6 ⟨rfl, hb⟩
      have be := (Ib.below hb).be
      have C1 := (B1c.below hb).by
      have C2 := (B2c.below hb).by
      clear Ib Vtb hb B1c B2c
      go_wp2_with fail
      refine (awake7 v6).mono ?_
      rintro e v9 ⟨rfl, hb⟩
      go_wp2
      go_ret
      exact ⟨rfl, be.trans (hb.mono be.size)⟩
end Go.Proofs.Ytomohdfcggghoaa
