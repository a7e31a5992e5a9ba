/-
  WHAT IS REACHED, no Go.
  PACKAGE look: leads, size, slices.Clone; reached.
  PACKAGE look: what a loop over what is reached keeps; the set of words.
-/
import Derived.Test.YtejmmjedognaaaaGreatMv35
import Derived.Maps.OwnIn
namespace Go.Proofs.YtejmmjedognaaaaGreat
open Go.RowKit
open St

/-- The words that lead on. -/
def ldsO (k : Int) (ws : List Int) : List Int := if k = -1 ∨ k = 0 then ws else if k = 5 then ws.take 1 else []
set_option maxRecDepth 100000 in
theorem ldsO_len (k : Int) (ws : List Int) : (ldsO k ws).length ≤ ws.length := by
  unfold ldsO
  split
  · exact Nat.le_refl _
  · split
    · rw [List.length_take]; omega
    · exact Nat.zero_le _
set_option maxRecDepth 100000 in
theorem ldsO_mem {k : Int} {ws : List Int} {x : Int} (h : x ∈ ldsO k ws) : x ∈ ws := by
  unfold ldsO at h
  split at h
  · exact h
  · split at h
    · exact List.mem_of_mem_take h
    · cases h
inductive Rch (gs : List Frg) (roots : List Int) : Int → Prop
  | root {x : Int} (h : x ∈ roots) (ho : (objO gs x).isSome) : Rch gs roots x
  | step {y x : Int} {k : Int} {ws : List Int} (hy : Rch gs roots y) (hk : objO gs y = some (k, ws)) (h : x ∈ ldsO k ws) (ho : (objO gs x).isSome) : Rch gs roots x
/-- An object that is reached: the word, the kind, where its words lie, and these. -/
structure OR where
  x : Int
  k : Int
  A : Option Addr
  n : Nat
  c : Nat
  ws : List Int
instance : Inhabited OR := ⟨⟨0, 0, none, 0, 0, []⟩⟩
def ORok (gs : List Frg) (l : List OR) : Prop := (l.map (·.x)).Nodup ∧ ∀ p ∈ l, Wd p.x ∧ objO gs p.x = some (p.k, p.ws) ∧ p.n = p.ws.length
/-- All that is reached, once each. -/
def Rchd (gs : List Frg) (roots : List Int) (l : List OR) : Prop := ORok gs l ∧ ∀ x, x ∈ l.map (·.x) ↔ Rch gs roots x

/-- The words that can lead to an object. -/
def cand (gs : List Frg) : List Int := gs.flatMap (fun f => (List.range f.ws.length).flatMap (fun (i : Nat) => [(f.at_ + (i : Int)) * 8 + 4, (f.at_ + (i : Int)) * 8 + 5]))
set_option maxRecDepth 100000 in
theorem cand_len (gs : List Frg) (h : ∀ f ∈ gs, f.ws.length ≤ 1000) : (cand gs).length ≤ 2000 * gs.length := by
  unfold cand
  induction gs with
  | nil => simp
  | cons f gs ih =>
    rw [List.flatMap_cons, List.length_append, List.length_cons]
    have h1 := ih (fun g hg => h g (List.mem_cons_of_mem _ hg))
    have h2 := h f (List.mem_cons_self ..)
    have h3 : ∀ (l : List Nat), (l.flatMap (fun (i : Nat) => [(f.at_ + (i : Int)) * 8 + 4, (f.at_ + (i : Int)) * 8 + 5])).length = 2 * l.length := fun l => by
      induction l with
      | nil => rfl
      | cons a l ih => rw [List.flatMap_cons, List.length_append, ih]; simp; omega
    rw [h3, List.length_range]
    omega
set_option maxRecDepth 100000 in
theorem atL_cand {gs : List Frg} {a : Int} (h : atL gs a ≠ []) : ∃ f ∈ gs, ∃ i : Nat, i < f.ws.length ∧ a = f.at_ + (i : Int) := by
  induction gs with
  | nil => exact absurd rfl h
  | cons f gs ih =>
    by_cases hi : inF f a
    · unfold inF at hi
      exact ⟨f, List.mem_cons_self .., (a - f.at_).toNat, by omega, by omega⟩
    · rw [(atL_cons f gs a).2 hi] at h
      obtain ⟨g, hg, hr⟩ := ih h
      exact ⟨g, List.mem_cons_of_mem _ hg, hr⟩
set_option maxRecDepth 100000 in
theorem objO_cand {gs : List Frg} {x : Int} (h : (objO gs x).isSome) : x ∈ cand gs := by
  cases ho : objO gs x with
  | none => rw [ho] at h; cases h
  | some p =>
    obtain ⟨k, ws⟩ := p
    have hou := (objO_outO ho).1
    have key : ∀ t : Int, (t = 4 ∨ t = 5) → x % 8 = t → atL gs (ldZ x) ≠ [] → x ∈ cand gs := fun t ht hxt hne => by
      obtain ⟨f, hf, i, hi, ha⟩ := atL_cand hne
      have hl : ldZ x = x / 8 := by
        unfold ldZ
        rw [if_neg (by omega)]
      unfold cand
      rw [List.mem_flatMap]
      refine ⟨f, hf, ?_⟩
      rw [List.mem_flatMap]
      refine ⟨i, List.mem_range.2 hi, ?_⟩
      rw [← ha, hl]
      rcases ht with rfl | rfl
      · rw [show x / 8 * 8 + 4 = x by omega]; simp
      · rw [show x / 8 * 8 + 5 = x by omega]; simp
    unfold outO at hou
    split at hou
    · next h5 =>
      refine key 5 (.inr rfl) h5 (fun e => ?_)
      rw [e] at hou
      simp at hou
    · unfold boxO boxZ at hou
      by_cases h4 : x % 8 = 4
      · refine key 4 (.inl rfl) h4 (fun e => ?_)
        rw [e] at hou
        simp at hou
      · split at hou
        · cases hou
        · rw [if_neg (fun e => h4 e.1)] at hou
          cases hou

set_option maxRecDepth 100000 in
theorem nodup_sub {l : List Int} : ∀ {c : List Int}, l.Nodup → (∀ x ∈ l, x ∈ c) → l.length ≤ c.length := by
  induction l with
  | nil => intro c _ _; exact Nat.zero_le _
  | cons a l ih =>
    intro c hn hs
    rw [List.nodup_cons] at hn
    have ha := hs a (List.mem_cons_self ..)
    have h1 := ih (c := c.erase a) hn.2 (fun x hx => by
      refine (List.mem_erase_of_ne (fun e => hn.1 (by rw [← e]; exact hx))).2 (hs x (List.mem_cons_of_mem _ hx)))
    rw [List.length_erase_of_mem ha] at h1
    have h2 := List.length_pos_of_mem ha
    rw [List.length_cons]
    omega
set_option maxRecDepth 100000 in
theorem ORok.len {gs : List Frg} {l : List OR} (h : ORok gs l) (hg : ∀ f ∈ gs, f.ws.length ≤ 1000) : l.length ≤ 2000 * gs.length := by
  have h1 := nodup_sub h.1 (c := cand gs) (fun x hx => by
    obtain ⟨p, hp, rfl⟩ := List.mem_map.1 hx
    obtain ⟨_, ho, _⟩ := h.2 p hp
    exact objO_cand (by rw [ho]; rfl))
  rw [List.length_map] at h1
  exact Nat.le_trans h1 (cand_len gs hg)
/-- What stands while it is gone through what is reached: what was yielded, what is to be visited. -/
structure Wk (gs : List Frg) (roots : List Int) (pre : List OR) (todo : List Int) : Prop where
  ok : ORok gs pre
  rch : ∀ p ∈ pre, Rch gs roots p.x
  td : ∀ x ∈ todo, Wd x ∧ ((objO gs x).isSome → Rch gs roots x)
  all : ∀ x, (x ∈ roots ∨ ∃ p ∈ pre, x ∈ ldsO p.k p.ws) → (objO gs x).isSome → x ∈ pre.map (·.x) ∨ x ∈ todo
set_option maxRecDepth 100000 in
theorem Wk.start (gs : List Frg) (roots : List Int) (h : ∀ x ∈ roots, Wd x) : Wk gs roots [] roots :=
  ⟨⟨List.nodup_nil, fun p hp => by cases hp⟩, fun p hp => (by cases hp), fun x hx => ⟨h x hx, fun ho => .root hx ho⟩, fun x hx _ => by
    rcases hx with hx | ⟨p, hp, _⟩
    · exact .inr hx
    · cases hp⟩
set_option maxRecDepth 100000 in
theorem Wk.again {gs : List Frg} {roots : List Int} {pre : List OR} {todo : List Int} {x : Int} (h : Wk gs roots pre (todo ++ [x])) (hs : x ∈ pre.map (·.x) ∨ (objO gs x).isSome = false) : Wk gs roots pre todo := by
  refine ⟨h.ok, h.rch, fun y hy => h.td y (List.mem_append_left _ hy), fun y hy ho => ?_⟩
  rcases h.all y hy ho with h1 | h1
  · exact .inl h1
  · rcases List.mem_append.1 h1 with h1 | h1
    · exact .inr h1
    · rw [List.mem_singleton] at h1
      subst h1
      rcases hs with hs | hs
      · exact .inl hs
      · rw [hs] at ho; cases ho
set_option maxRecDepth 100000 in
theorem ORok.snoc {gs : List Frg} {pre : List OR} {p : OR} (h : ORok gs pre) (hn : p.x ∉ pre.map (·.x)) (hw : Wd p.x) (ho : objO gs p.x = some (p.k, p.ws)) (hl : p.n = p.ws.length) : ORok gs (pre ++ [p]) := by
  refine ⟨?_, fun q hq => ?_⟩
  · rw [List.map_append, List.nodup_append]
    refine ⟨h.1, by simp, fun a ha b hb e => ?_⟩
    simp only [List.map_cons, List.map_nil, List.mem_singleton] at hb
    subst e hb
    exact hn ha
  · rcases List.mem_append.1 hq with hq | hq
    · exact h.2 q hq
    · rw [List.mem_singleton] at hq
      subst hq
      exact ⟨hw, ho, hl⟩
set_option maxRecDepth 100000 in
theorem Wk.more {gs : List Frg} {roots : List Int} {pre : List OR} {todo : List Int} {p : OR} (h : Wk gs roots pre (todo ++ [p.x])) (hn : p.x ∉ pre.map (·.x)) (ho : objO gs p.x = some (p.k, p.ws)) (hl : p.n = p.ws.length) (hw : ∀ y ∈ p.ws, Wd y) : Wk gs roots (pre ++ [p]) (todo ++ ldsO p.k p.ws) := by
  have hp := h.td p.x (by simp)
  have hr := hp.2 (by rw [ho]; rfl)
  refine ⟨h.ok.snoc hn hp.1 ho hl, fun q hq => ?_, fun y hy => ?_, fun y hy hyo => ?_⟩
  · rcases List.mem_append.1 hq with hq | hq
    · exact h.rch q hq
    · rw [List.mem_singleton] at hq
      subst hq
      exact hr
  · rcases List.mem_append.1 hy with hy | hy
    · exact h.td y (List.mem_append_left _ hy)
    · exact ⟨hw y (ldsO_mem hy), fun hyo => .step hr ho hy hyo⟩
  · have key : (y ∈ roots ∨ ∃ q ∈ pre, y ∈ ldsO q.k q.ws) → y ∈ (pre ++ [p]).map (·.x) ∨ y ∈ todo ++ ldsO p.k p.ws := fun hy => by
      rcases h.all y hy hyo with h1 | h1
      · exact .inl (by rw [List.map_append]; exact List.mem_append_left _ h1)
      · rcases List.mem_append.1 h1 with h1 | h1
        · exact .inr (List.mem_append_left _ h1)
        · rw [List.mem_singleton] at h1
          exact .inl (by rw [h1]; simp)
    rcases hy with hy | ⟨q, hq, hy⟩
    · exact key (.inl hy)
    · rcases List.mem_append.1 hq with hq | hq
      · exact key (.inr ⟨q, hq, hy⟩)
      · rw [List.mem_singleton] at hq
        subst hq
        exact .inr (List.mem_append_right _ hy)
set_option maxRecDepth 100000 in
theorem Wk.done {gs : List Frg} {roots : List Int} {pre : List OR} (h : Wk gs roots pre []) : Rchd gs roots pre := by
  refine ⟨h.ok, fun x => ⟨fun hx => ?_, fun hx => ?_⟩⟩
  · obtain ⟨p, hp, rfl⟩ := List.mem_map.1 hx
    exact h.rch p hp
  · induction hx with
    | root hx ho =>
      rcases h.all _ (.inl hx) ho with h1 | h1
      · exact h1
      · cases h1
    | step hy hk hx ho ih =>
      obtain ⟨p, hp, e⟩ := List.mem_map.1 ih
      have h2 := (h.ok.2 p hp).2.1
      rw [e, hk] at h2
      injection h2 with h2
      injection h2 with e1 e2
      rcases h.all _ (.inr ⟨p, hp, by rw [← e1, ← e2]; exact hx⟩) ho with h1 | h1
      · exact h1
      · cases h1
end Go.Proofs.YtejmmjedognaaaaGreat

namespace Go.Proofs.YtejmmjedognaaaaGreat
open Go.RowKit Go.Shelf
open St

set_option maxRecDepth 100000 in
theorem und_u64r : Tryz.prog.underlying 22 = some (.slice 30) := by kernel_rfl
set_option maxRecDepth 100000 in
theorem info_u64r : (Tryz.prog.info? 30).map (fun i => (i.zero, i.size, i.bytes)) = some (some (.int .u64 0), 1, 8) := by kernel_rfl
def u64s (zs : List Int) : List Value := zs.map (.int .u64)
set_option maxRecDepth 100000 in
theorem u64s_get {zs : List Int} {j : Nat} (h : j < zs.length) : (u64s zs)[j]? = some (.int .u64 (zs.getD j 0)) := by
  unfold u64s
  rw [List.getElem?_map, List.getElem?_eq_getElem h, List.getD_eq_getElem?_getD, List.getElem?_eq_getElem h]
  rfl
set_option maxRecDepth 100000 in
theorem u64s_len (zs : List Int) : (u64s zs).length = zs.length := List.length_map ..
set_option maxRecDepth 100000 in
theorem u64s_one (zs : List Int) : ∀ u ∈ u64s zs, u.oneCell' = true := fun u hu => by
  obtain ⟨z, _, rfl⟩ := List.mem_map.1 hu
  rfl
set_option maxRecDepth 100000 in
/-- Numbers in memory are put behind a row of one's own. -/
theorem u64_app {w : World} {B : Nat} {A : Option Addr} {n c : Nat} {zs : List Int} {A2 : Option Addr} {m c2 : Nat} {ys : List Int} (ho : w.ownsRow B 30 1 (.slice A n c) n (u64s zs)) (h : Zs .u64 w A2 m c2 ys) (hB : B ≤ w.heap.size) (hn : n + m ≤ 100000000) (ty : TypeId) :
    ∃ A' c' w', (Builtin.append_ #[22, 22] ty #[.slice A n c, .slice A2 m c2]).run Tryz.prog w = .ok (.slice A' (n + m) c') w' ∧ w'.ownsRow B 30 1 (.slice A' (n + m) c') (n + m) (u64s (zs ++ ys)) ∧ w.grownBy w' (Value.slice A n c).ownBlock := by
  obtain ⟨i, hi, hz, hs, hb⟩ := info_parts info_u64r
  have hform : ∀ {v' : Value} {w' : World} {N : Nat} {xs : List Value}, w'.ownsRow B 30 1 v' N xs → ∃ A' c', v' = .slice A' N c' := fun ho => by
    rcases ho.2 with ⟨rfl, h0⟩ | ⟨g, cap, cur, rfl, _⟩
    · exact ⟨none, 0, by rw [h0]⟩
    · exact ⟨_, _, rfl⟩
  by_cases hA : A2 = none
  · subst hA
    have h0 : m = 0 := by
      rcases Nat.eq_zero_or_pos m with h0 | h0
      · exact h0
      · obtain ⟨b, o, e, _⟩ := h.some h0
        cases e
    subst h0
    have hy : ys = [] := List.eq_nil_of_length_eq_zero h.len
    subst hy
    rw [List.append_nil, Nat.add_zero]
    refine ⟨A, c, w, ?_, ho, ⟨rfl, rfl, rfl, Nat.le_refl _, fun _ _ _ => rfl⟩⟩
    have hnc : n ≤ c := by
      rcases ho.2 with ⟨h0, h1⟩ | ⟨g, cap, cur, hv, _, _, hnc, _⟩
      · omega
      · injection hv with _ _ e3
        omega
    simp [Builtin.append_, run_underlying und_u64r, sizeOf, typeInfo, hi, Builtin.lenOf, Builtin.firstCells, storeCells, hnc]
    cases A <;> rfl
  · obtain ⟨ad, rfl⟩ : ∃ ad, A2 = some ad := by
      cases A2 with
      | none => exact absurd rfl hA
      | some ad => exact ⟨ad, rfl⟩
    have hcell : ∀ j u, (u64s ys)[j]? = some u → w.cell? (ad.add j) = some u := fun j u hu => by
      have hj : j < ys.length := by
        have := (List.getElem?_eq_some_iff.1 hu).1
        rwa [u64s_len] at this
      rw [u64s_get hj] at hu
      rw [h.len] at hj
      obtain ⟨b, o, e, _⟩ := h.some (by omega)
      cases e
      rw [Lk.addN, h.at_ hj]
      exact hu
    obtain ⟨v', w', hrun, ho', hg, _, _⟩ := run_append_own_at (P := Tryz.prog) w B 22 ty 30 i (.int .u64 0) 1 8 und_u64r hi hz hs hb rfl (by decide) (.slice A n c) n (u64s zs) ho ad m c2 (u64s ys) (by rw [u64s_len, h.len, Nat.mul_one]) hcell (u64s_one _) (by unfold maxLen; omega) (by omega) hB
    obtain ⟨A', c', rfl⟩ := hform ho'
    exact ⟨A', c', w', hrun, by unfold u64s at ho' ⊢; rw [List.map_append]; exact ho', hg⟩

set_option maxRecDepth 100000 in
set_option maxRecDepth 100000 in
set_option maxHeartbeats 1000000 in
theorem clone64_any {w : World} {A : Option Addr} {m c : Nat} {zs : List Int} (h : Zs .u64 w A m c zs) (hm : m ≤ 1000) :
    Calls Tryz.prog 79 #[.slice A m c] w fun e w' => ∃ A' c', e = .returned (.slice A' m c') ∧ w'.ownsRow w.heap.size 30 1 (.slice A' m c') m (u64s zs) ∧ Below w.heap.size w w' := by
  have hnil := fun w => Lib.run_eql_slice_nil (P := Tryz.prog) w 22 30 A m c 0 0 und_u64r
  cases A with
  | none =>
    have h0 : m = 0 := by
      rcases Nat.eq_zero_or_pos m with h0 | h0
      · exact h0
      · obtain ⟨b, o, e, _⟩ := h.some h0
        cases e
    subst h0
    have hl : zs = [] := List.eq_nil_of_length_eq_zero h.len
    subst hl
    go_enter Tryz.func79, Tryz.ntmps79
    go_wp2
    go_ret
    exact ⟨none, 0, rfl, World.ownsRow_nil _ _ _ _, Below.refl _ _⟩
  | some ad =>
    have hown0 : (w.alloc (.cells #[] 30)).ownsRow w.heap.size 30 1 (.slice (some ⟨w.heap.size, 0, none⟩) 0 0) 0 (u64s []) := World.ownsRow_made w #[] 0 (Nat.le_refl _) (Nat.zero_le _) rfl
    have hz := h.below ((Below.refl _ w).alloc (Nat.le_refl _) (.cells #[] 30))
    obtain ⟨A', c', w1, hrun, hO, hg⟩ := u64_app hown0 hz (by simp) (by omega) 22
    rw [List.nil_append, Nat.zero_add] at hO
    rw [Nat.zero_add] at hrun
    have hB : Below w.heap.size w w1 := ((Below.refl w.heap.size w).alloc (Nat.le_refl _) (.cells #[] 30)).grown hg (by simp) (fun k e => by cases e; exact Nat.le_refl _)
    have hR := Lib.hid hrun
    clear hrun hz h hg
    go_enter Tryz.func79, Tryz.ntmps79
    go_wp2_with (at_builtin; refine wpList_append_run rfl _ _ _ rfl _ _ _ rfl rfl hR.out ?_)
    go_ret
    exact ⟨A', c', rfl, hO, hB⟩

set_option maxRecDepth 100000 in
set_option maxRecDepth 100000 in
set_option maxHeartbeats 1000000 in
theorem osize_any {w : World} (k : Int) (A : Option Addr) (n c : Nat) (hn : n ≤ 1000) :
    Calls Tryz.prog 47 #[.agg #[.int .i64 k, .slice A n c]] w fun e w' => e = .returned (.int .i64 (if k = -1 then (n : Int) else 1 + n)) ∧ Below w.heap.size w w' := by
  have hb : Below w.heap.size w (w.alloc (.cells #[.int .i64 k, .slice A n c] 93)) := (Below.refl _ w).alloc (Nat.le_refl _) _
  by_cases hk : k = -1
  · subst hk
    go_enter Tryz.func47, Tryz.ntmps47
    go_wp2
    go_ret
    exact ⟨rfl, hb⟩
  · have hd : (k == -1) = false := beq_eq_false_iff_ne.2 hk
    rw [if_neg hk]
    clear hk
    go_enter Tryz.func47, Tryz.ntmps47
    go_wp2
    go_ret
    exact ⟨rfl, hb⟩

set_option maxRecDepth 100000 in
set_option maxRecDepth 100000 in
set_option maxHeartbeats 1000000 in
theorem leads_any {w : World} (k : Int) (A : Option Addr) (n c : Nat) (ws : List Int) (hl : n = ws.length) (hk5 : k = 5 → 1 ≤ n) (hnc : n ≤ c) (hc : c ≤ maxLen) :
    Calls Tryz.prog 80 #[.agg #[.int .i64 k, .slice A n c]] w fun e w' => ∃ A' n' c', e = .returned (.slice A' n' c') ∧ (∀ V, Zs .u64 V A n c ws → Zs .u64 V A' n' c' (ldsO k ws)) ∧ n' ≤ n ∧ Below w.heap.size w w' := by
  have hb : Below w.heap.size w (w.alloc (.cells #[.int .i64 k, .slice A n c] 93)) := (Below.refl _ w).alloc (Nat.le_refl _) _
  have hc1 : c ≤ 9223372036854775807 := hc
  by_cases hk : k = -1 ∨ k = 0
  · have hv : ldsO k ws = ws := if_pos hk
    have hd : (k == -1) = true ∨ ((k == -1) = false ∧ (k == 0) = true) := by
      rcases hk with rfl | rfl
      · exact .inl rfl
      · exact .inr ⟨rfl, rfl⟩
    replace hv := Lib.hid hv
    clear hk hk5 hl
    rcases hd with hd | ⟨hd, hd2⟩
    all_goals
      go_enter Tryz.func80, Tryz.ntmps80
      go_wp2
      go_ret
      exact ⟨A, n, c, rfl, fun V hV => by rw [hv.out]; exact hV, Nat.le_refl _, hb⟩
  · have hd1 : (k == -1) = false := beq_eq_false_iff_ne.2 (fun e => hk (.inl e))
    have hd2 : (k == 0) = false := beq_eq_false_iff_ne.2 (fun e => hk (.inr e))
    by_cases h5 : k = 5
    · have hd3 : (k == 5) = true := by rw [h5]; rfl
      have hv : Hid (ldsO k ws = ws.take 1) := Lib.hid (by unfold ldsO; rw [if_neg hk, if_pos h5])
      have hn1 := hk5 h5
      have e1 : (1 : Int) ≤ (c : Int) := by omega
      clear hk h5 hk5
      replace hl := Lib.hid hl
      go_enter Tryz.func80, Tryz.ntmps80
      go_wp2
      go_ret
      refine ⟨A, 1, c, rfl, fun V hV => ?_, hn1, hb⟩
      rw [hv.out]
      obtain ⟨b, o, e, _⟩ := hV.some (by omega)
      subst e
      have h9 := hV.part (lo := 0) (m := 1) (o' := o) (by omega) (.inr rfl)
      rw [List.drop_zero, Nat.sub_zero] at h9
      exact h9
    · have hd3 : (k == 5) = false := beq_eq_false_iff_ne.2 h5
      have hv : Hid (ldsO k ws = []) := Lib.hid (by unfold ldsO; rw [if_neg hk, if_neg h5])
      clear hk h5 hk5 hl
      go_enter Tryz.func80, Tryz.ntmps80
      go_wp2
      go_ret
      exact ⟨none, 0, 0, rfl, fun V hV => by rw [hv.out]; exact Zs.nil _ _, Nat.zero_le _, hb⟩
set_option maxRecDepth 100000 in
theorem reached_any {w : World} (T : TypeId) (v : Value) (A : Option Addr) (m c : Nat) :
    Calls Tryz.prog 46 #[.iface T v, .slice A m c] w fun e w' => e = .returned (.func (.func 78) #[] #[.pointer (some ⟨w.heap.size + 1, 0, none⟩), .pointer (some ⟨w.heap.size, 0, none⟩)]) ∧ w' = (w.alloc (.cells #[.iface T v] 65)).alloc (.cells #[.slice A m c] 22) := by
  go_enter Tryz.func46, Tryz.ntmps46
  go_wp2
  go_ret
  exact ⟨rfl, rfl⟩
end Go.Proofs.YtejmmjedognaaaaGreat

namespace Go.Proofs.YtejmmjedognaaaaGreat
open Go.RowKit Go.Shelf
open St

/-- Blocks lie as they lay, but for some. -/
structure Kpk (K : Nat → Obj → Prop) (W W' : World) : Prop where
  os : W'.os = W.os
  tape : W'.tape = W.tape
  output : W'.output = W.output
  size : W.heap.size ≤ W'.heap.size
  block : ∀ k o, W.heap[k]? = some o → ¬ K k o → W'.heap[k]? = some o
namespace Kpk
variable {K K' : Nat → Obj → Prop} {W W' W2 : World}
set_option maxRecDepth 100000 in
theorem refl (K : Nat → Obj → Prop) (W : World) : Kpk K W W := ⟨rfl, rfl, rfl, Nat.le_refl _, fun _ _ h _ => h⟩
set_option maxRecDepth 100000 in
theorem trans (h : Kpk K W W') (g : Kpk K W' W2) : Kpk K W W2 := ⟨g.os.trans h.os, g.tape.trans h.tape, g.output.trans h.output, Nat.le_trans h.size g.size, fun k o hk hn => g.block k o (h.block k o hk hn) hn⟩
set_option maxRecDepth 100000 in
theorem mono (h : Kpk K W W') (hk : ∀ k o, W.heap[k]? = some o → K k o → K' k o) : Kpk K' W W' := ⟨h.os, h.tape, h.output, h.size, fun k o hk1 hn => h.block k o hk1 (fun e => hn (hk k o hk1 e))⟩
set_option maxRecDepth 100000 in
theorem below (h : Below W.heap.size W W') : Kpk K W W' := ⟨h.os, h.tape, h.output, h.size, fun k _ hk _ => (h.block k (Array.getElem?_eq_some_iff.1 hk).1).trans hk⟩
set_option maxRecDepth 100000 in
theorem drewN (h : Kpk K W W') (q : Nat) : Kpk K W (W'.drewN q) := ⟨h.os, h.tape, h.output, h.size, h.block⟩
set_option maxRecDepth 100000 in
theorem chg {C : Nat → Prop} (h : Chg C W W') (hk : ∀ k o, W.heap[k]? = some o → C k → K k o) : Kpk K W W' := ⟨h.os, h.tape, h.output, h.size, fun k o hk1 hn => (h.block k (Array.getElem?_eq_some_iff.1 hk1).1 (fun e => hn (hk k o hk1 e))).trans hk1⟩
set_option maxRecDepth 100000 in
theorem grown {row : Option Nat} (hg : W.grownBy W' row) (hk : ∀ k o, row = some k → W.heap[k]? = some o → K k o) : Kpk K W W' := ⟨hg.os, hg.tape, hg.output, hg.size, fun k o hk1 hn => (hg.block k (Array.getElem?_eq_some_iff.1 hk1).1 (fun e => hn (hk k o e.symm hk1))).trans hk1⟩
set_option maxRecDepth 100000 in
theorem toBelow (h : Kpk K W W') {B : Nat} (hB : B ≤ W.heap.size) (hk : ∀ k o, k < B → ¬ K k o) : Below B W W' := ⟨h.os, h.tape, h.output, h.size, fun k hk1 => by
  have h1 := h.block k _ (Array.getElem?_eq_getElem (Nat.lt_of_lt_of_le hk1 hB)) (hk k _ hk1)
  rw [h1, Array.getElem?_eq_getElem (Nat.lt_of_lt_of_le hk1 hB)]⟩
end Kpk
/-- Cells that hold a word hold it. -/
def KU (W W' : World) : Prop := ∀ (p : Addr) (x : Int), W.cell? p = some (.int .u64 x) → W'.cell? p = some (.int .u64 x)
set_option maxRecDepth 100000 in
theorem KU.refl (W : World) : KU W W := fun _ _ h => h
set_option maxRecDepth 100000 in
theorem KU.trans {W W' W2 : World} (h : KU W W') (g : KU W' W2) : KU W W2 := fun p x hp => g p x (h p x hp)
set_option maxRecDepth 100000 in
theorem KU.below {W W' : World} (h : Below W.heap.size W W') : KU W W' := fun _ _ hp => (h.cell (World.block_lt_of_cell? W _ hp)).trans hp
set_option maxRecDepth 100000 in
theorem KU.grown {W W' : World} {row : Option Nat} (hg : W.grownBy W' row) (hr : ∀ k p x, row = some k → W.cell? p = some (.int .u64 x) → p.block ≠ k) : KU W W' := fun p x hp => hg.cell hp (fun e => hr _ p x e.symm hp rfl)
set_option maxRecDepth 100000 in
theorem KU.set {W : World} {p : Addr} {u : Value} (h : W.cell? p = some u) (hu : ∀ x, u ≠ .int .u64 x) (v : Value) : KU W (W.setCell p v) := fun q x hq => by
  rw [World.cell?_setCell_other W p q v (fun e => by
    rw [← e, h] at hq
    injection hq with hq
    exact hu x hq)]
  exact hq
set_option maxRecDepth 100000 in
theorem Zs.ku {w w' : World} {A : Option Addr} {n c : Nat} {zs : List Int} (h : Zs .u64 w A n c zs) (hk : KU w w') (hs : w.heap.size ≤ w'.heap.size) : Zs .u64 w' A n c zs := by
  refine ⟨h.len, h.nc, h.cm, h.wf, fun hn => ?_⟩
  obtain ⟨b, o, e, hlt, hc⟩ := h.el hn
  exact ⟨b, o, e, Nat.lt_of_lt_of_le hlt hs, fun j hj => hk _ _ (hc j hj)⟩
set_option maxRecDepth 100000 in
theorem own_kpk {w w' : World} {B : Nat} {t : TypeId} {k : Nat} {v : Value} {n : Nat} {xs : List Value} {K : Nat → Obj → Prop} (h : w.ownsRow B t k v n xs) (hc : Kpk K w w') (hk : ∀ g cs, B ≤ g → ¬ K g (.cells cs t (0, 0))) : w'.ownsRow B t k v n xs := by
  refine ⟨h.1, ?_⟩
  rcases h.2 with h0 | ⟨g, cap, cur, hv, hb, hgg, rest⟩
  · exact .inl h0
  · exact .inr ⟨g, cap, cur, hv, hb, hc.block g _ hgg (hk g cur hb), rest⟩
set_option maxRecDepth 100000 in
theorem own_below {w w' : World} {B : Nat} {t : TypeId} {k : Nat} {v : Value} {n : Nat} {xs : List Value} (h : w.ownsRow B t k v n xs) (hb : Below w.heap.size w w') : w'.ownsRow B t k v n xs := own_kpk (K := fun _ _ => False) h (Kpk.below hb) (fun _ _ _ h => h)

/-- The words that were gone to. -/
def MpS (V : World) (sb : Nat) (pre : List OR) : Prop :=
  ∃ D : DataW Unit, V.ownsMap Tryz.prog 30 unitElem sb pre.length D ∧ (∀ x : Int, Maps.has D (.int .u64 x) = true ↔ x ∈ pre.map (·.x)) ∧ Maps.size D = pre.length
set_option maxRecDepth 100000 in
theorem lawU6 : Maps.Keyed Tryz.prog 30 := Maps.int_keyed Tryz.underlying30
set_option maxRecDepth 100000 in
theorem own_uniq {V : World} {sb n n' : Nat} {D D' : DataW Unit} (h : V.ownsMap Tryz.prog 30 unitElem sb n D) (g : V.ownsMap Tryz.prog 30 unitElem sb n' D') : D = D' := by
  obtain ⟨es, clock, hb, _, _, hD⟩ := h
  obtain ⟨es', clock', hb', _, _, hD'⟩ := g
  rw [hb] at hb'
  injection hb' with e
  injection e with e1 e2
  subst e1
  rw [hD, hD']
open Classical in
/-- How many there are, read off the world. -/
noncomputable def msz (V : World) (sb : Nat) : Nat := if h : ∃ r : DataW Unit × Nat, V.ownsMap Tryz.prog 30 unitElem sb r.2 r.1 then Maps.size (Classical.choose h).1 else 0
set_option maxRecDepth 100000 in
theorem MpS.size {V : World} {sb : Nat} {pre : List OR} (h : MpS V sb pre) : msz V sb = pre.length := by
  obtain ⟨D, h1, _, h3⟩ := h
  have hex : ∃ r : DataW Unit × Nat, V.ownsMap Tryz.prog 30 unitElem sb r.2 r.1 := ⟨(D, pre.length), h1⟩
  unfold msz
  rw [dif_pos hex, own_uniq (Classical.choose_spec hex) h1, h3]
set_option maxRecDepth 100000 in
theorem MpS.kpk {V V' : World} {sb : Nat} {pre : List OR} {K : Nat → Obj → Prop} (h : MpS V sb pre) (hc : Kpk K V V') (hk : ∀ es c, ¬ K sb (.map es c)) : MpS V' sb pre := by
  obtain ⟨D, ⟨es, clock, hb, r⟩, h2⟩ := h
  exact ⟨D, ⟨es, clock, hc.block sb _ hb (hk es clock), r⟩, h2⟩
set_option maxRecDepth 100000 in
theorem MpS.below {V V' : World} {sb : Nat} {pre : List OR} (h : MpS V sb pre) (hb : Below V.heap.size V V') : MpS V' sb pre := h.kpk (K := fun _ _ => False) (Kpk.below hb) (fun _ _ h => h)
set_option maxRecDepth 100000 in
theorem MpS.lt {V : World} {sb : Nat} {pre : List OR} (h : MpS V sb pre) : sb < V.heap.size := by
  obtain ⟨D, ⟨es, clock, hb, _⟩, _⟩ := h
  exact (Array.getElem?_eq_some_iff.1 hb).1
set_option maxRecDepth 100000 in
theorem MpS.obj {V : World} {sb : Nat} {pre : List OR} (h : MpS V sb pre) : ∃ es c, V.heap[sb]? = some (.map es c) := by
  obtain ⟨D, ⟨es, clock, hb, _⟩, _⟩ := h
  exact ⟨es, clock, hb⟩
set_option maxRecDepth 100000 in
theorem MpS.put {V' : World} {sb : Nat} {pre : List OR} {p : OR} {D : DataW Unit} (h1 : ∀ x : Int, Maps.has D (.int .u64 x) = true ↔ x ∈ pre.map (·.x)) (h2 : Maps.size D = pre.length) (htd : Maps.Tidy D) (hn : p.x ∉ pre.map (·.x)) (ho : V'.ownsMap Tryz.prog 30 unitElem sb (pre.length + 1) (D.put (.int .u64 p.x) (.agg []))) : MpS V' sb (pre ++ [p]) := by
  have hk : WideAt.IsKeyLit (.int .u64 p.x) := trivial
  refine ⟨_, by rw [List.length_append]; exact ho, fun x => ?_, ?_⟩
  · by_cases e : x = p.x
    · subst e
      rw [Maps.has_put_same htd.isMap hk]
      simp
    · have hne : (Lit.int .u64 x) ≠ .int .u64 p.x := fun h => e (by injection h)
      rw [Maps.has_put_other hne, h1 x, List.map_append, List.mem_append]
      simp [e]
  · rw [Maps.size_put htd, h2, List.length_append]
    have : Maps.has D (.int .u64 p.x) = false := by
      cases hh : Maps.has D (.int .u64 p.x) with
      | false => rfl
      | true => exact absurd ((h1 _).1 hh) hn
    rw [this]
    rfl
end Go.Proofs.YtejmmjedognaaaaGreat
