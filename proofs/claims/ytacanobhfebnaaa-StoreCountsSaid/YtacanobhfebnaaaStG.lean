/-
  PACKAGE store: Inc, Dec.
-/
import Derived.Test.YtacanobhfebnaaaStF
namespace Go.Proofs.Ytacanobhfebnaaa
open Go.RowKit
open St

set_option maxRecDepth 100000 in
theorem Sto.upd {w w' : World} {S : Nat} {L L' : List Slt} {g : Nat} {F : Option Addr} {c m e : Nat} {d : Nat → Nat} {b : Int} (h : Sto w S L (some ⟨g, 0, none⟩) c F m e d b) (hr : Row3 w' (some ⟨g, 0, none⟩) L.length c L') (hg : w.grownBy w' (some g)) : Sto w' S L' (some ⟨g, 0, none⟩) c F m e d b := by
  have hl := hr.len
  refine ⟨?_, by rw [hl]; exact hr⟩
  rw [hl]
  exact h.fre.chg (K := fun k => k = g) (Chg.grown hg (fun k hk => by cases hk; rfl)) (fun e => h.neA (by rw [← e]; rfl)) (fun k hk e => by subst e; exact h.neAF rfl hk)
set_option maxRecDepth 100000 in
theorem Sto.put1 {w : World} {S : Nat} {L : List Slt} {g : Nat} {F : Option Addr} {c m e : Nat} {d : Nat → Nat} {b : Int} (h : Sto w S L (some ⟨g, 0, none⟩) c F m e d b) {i : Nat} (hi : i < L.length) (x : Int) :
    Sto (w.setCell ⟨g, i * 3 + 1, none⟩ (.int .i64 x)) S (L.set i ⟨(gt L i).st, x, (gt L i).tx⟩) (some ⟨g, 0, none⟩) c F m e d b ∧ w.grownBy (w.setCell ⟨g, i * 3 + 1, none⟩ (.int .i64 x)) (some g) := by
  have hg := (World.ownsRow.stored h.row.row (i * 3 + 1) (.int .i64 x)).2
  exact ⟨h.upd (h.row.put1 hi x) hg, hg⟩
set_option maxRecDepth 100000 in
theorem Sto.put2 {w : World} {S : Nat} {L : List Slt} {g : Nat} {F : Option Addr} {c m e : Nat} {d : Nat → Nat} {b : Int} (h : Sto w S L (some ⟨g, 0, none⟩) c F m e d b) {i : Nat} (hi : i < L.length) (t : ByteArray) :
    Sto (w.setCell ⟨g, i * 3 + 2, none⟩ (.string t)) S (L.set i ⟨(gt L i).st, (gt L i).ct, t⟩) (some ⟨g, 0, none⟩) c F m e d b ∧ w.grownBy (w.setCell ⟨g, i * 3 + 2, none⟩ (.string t)) (some g) := by
  have hg := (World.ownsRow.stored h.row.row (i * 3 + 2) (.string t)).2
  exact ⟨h.upd (h.row.put2 hi t) hg, hg⟩
set_option maxRecDepth 100000 in
theorem Sto.put0 {w : World} {S : Nat} {L : List Slt} {g : Nat} {F : Option Addr} {c m e : Nat} {d : Nat → Nat} {b : Int} (h : Sto w S L (some ⟨g, 0, none⟩) c F m e d b) {i : Nat} (hi : i < L.length) (x : Int) :
    Sto (w.setCell ⟨g, i * 3, none⟩ (.int .i64 x)) S (L.set i ⟨x, (gt L i).ct, (gt L i).tx⟩) (some ⟨g, 0, none⟩) c F m e d b ∧ w.grownBy (w.setCell ⟨g, i * 3, none⟩ (.int .i64 x)) (some g) := by
  have hg := (World.ownsRow.stored h.row.row (i * 3) (.int .i64 x)).2
  exact ⟨h.upd (h.row.put0 hi x) hg, hg⟩
set_option maxRecDepth 100000 in
theorem Sto.setB {w : World} {S : Nat} {L : List Slt} {A F : Option Addr} {c m e : Nat} {d : Nat → Nat} {b : Int} (h : Sto w S L A c F m e d b) (x : Int) :
    Sto (w.setCell ⟨S, 2, none⟩ (.int .i64 x)) S L A c F m e d x ∧ w.grownBy (w.setCell ⟨S, 2, none⟩ (.int .i64 x)) (some S) := by
  have hg : w.grownBy (w.setCell ⟨S, 2, none⟩ (.int .i64 x)) (some S) := ⟨rfl, rfl, rfl, by simp, fun k _ hk => heap_setCell_other w ⟨S, 2, none⟩ k _ (fun e => hk (by rw [e]))⟩
  have hc : Chg (fun k => k = S) w (w.setCell ⟨S, 2, none⟩ (.int .i64 x)) := Chg.grown hg (fun k hk => by cases hk; rfl)
  refine ⟨⟨⟨?_, ?_⟩, h.row.chg hc (fun k hk e => h.neA (by rw [hk, e]))⟩, hg⟩
  · rw [heap_setCell_same w S 2 _ _ _ h.fre.blk]
    simp
  · refine ⟨h.fre.row.1, ?_⟩
    rcases h.fre.row.2 with h0 | ⟨g, cap, cur, hv, hb, hg, rest⟩
    · exact .inl h0
    · refine .inr ⟨g, cap, cur, hv, hb, ?_, rest⟩
      cases hv
      rw [heap_setCell_other w ⟨S, 2, none⟩ g _ (fun e => h.neF (congrArg some (show g = S from e)))]
      exact hg
set_option maxRecDepth 100000 in
theorem Sto.drewN {w : World} {S : Nat} {L : List Slt} {A F : Option Addr} {c m e : Nat} {d : Nat → Nat} {b : Int} (h : Sto w S L A c F m e d b) (q : Nat) : Sto (w.drewN q) S L A c F m e d b := ⟨h.fre.drewN q, ⟨h.row.len, h.row.row⟩⟩
set_option maxRecDepth 100000 in
theorem Sto.gS {w : World} {S : Nat} {L : List Slt} {g : Nat} {F : Option Addr} {c m e : Nat} {d : Nat → Nat} {b : Int} (h : Sto w S L (some ⟨g, 0, none⟩) c F m e d b) : g ≠ S := fun e => h.neA (by rw [e]; rfl)

set_option maxRecDepth 100000 in
set_option maxRecDepth 100000 in
set_option maxHeartbeats 2000000 in
theorem inc_bad {w : World} {S : Nat} {L : List Slt} {A F : Option Addr} {c m e : Nat} {d : Nat → Nat} {b : Int} (h : Sto w S L A c F m e d b) (hn : L.length ≤ 100000) (slot stamp : Int) (he : err L slot stamp ≠ 0) :
    Calls Try.prog 13 #[.pointer (some ⟨S, 0, none⟩), .int .i64 slot, .int .i64 stamp] w fun r w' => r = .returned (.int .i64 (err L slot stamp)) ∧ w = w' := by
  have hf := Lib.hid (find_bad h hn slot stamp he)
  have he2 : (err L slot stamp != 0) = true := bne_iff_ne.2 he
  clear h he
  generalize err L slot stamp = x at *
  go_enter Try.func13, Try.ntmps13
  go_wp2_with (go_at_call 28; (with_reducible refine hf.out.mono ?_); rintro r w1 ⟨rfl, rfl⟩)
  go_ret
  exact ⟨rfl, rfl⟩
set_option maxRecDepth 100000 in
set_option maxRecDepth 100000 in
set_option maxHeartbeats 2000000 in
theorem dec_bad {w : World} {S : Nat} {L : List Slt} {A F : Option Addr} {c m e : Nat} {d : Nat → Nat} {b : Int} (h : Sto w S L A c F m e d b) (hn : L.length ≤ 100000) (slot stamp : Int) (he : err L slot stamp ≠ 0) :
    Calls Try.prog 15 #[.pointer (some ⟨S, 0, none⟩), .int .i64 slot, .int .i64 stamp] w fun r w' => r = .returned (.int .i64 (err L slot stamp)) ∧ w = w' := by
  have hf := Lib.hid (find_bad h hn slot stamp he)
  have he2 : (err L slot stamp != 0) = true := bne_iff_ne.2 he
  clear h he
  generalize err L slot stamp = x at *
  go_enter Try.func15, Try.ntmps15
  go_wp2_with (go_at_call 28; (with_reducible refine hf.out.mono ?_); rintro r w1 ⟨rfl, rfl⟩)
  go_ret
  exact ⟨rfl, rfl⟩

set_option maxRecDepth 100000 in
set_option maxRecDepth 100000 in
set_option maxHeartbeats 2000000 in
theorem inc_ok {w : World} {S : Nat} {L : List Slt} {g : Nat} {F : Option Addr} {c m e : Nat} {d : Nat → Nat} {b : Int} (h : Sto w S L (some ⟨g, 0, none⟩) c F m e d b) (i : Nat) (stamp : Int) (hi : i < L.length) (h2 : (gt L i).ct ≠ 0) (h3 : (gt L i).st = stamp) (h4 : 0 ≤ (gt L i).ct) (h5 : (gt L i).ct ≤ 100000) :
    Calls Try.prog 13 #[.pointer (some ⟨S, 0, none⟩), .int .i64 (i : Int), .int .i64 stamp] w fun r w' => r = .returned (.int .i64 0) ∧ Sto w' S (L.set i ⟨(gt L i).st, (gt L i).ct + 1, (gt L i).tx⟩) (some ⟨g, 0, none⟩) c F m e d b ∧ w.grownBy w' (some g) := by
  have hf := Lib.hid (find_ok h i stamp hi h2 h3)
  have HP := Lib.hid (h.put1 hi ((gt L i).ct + 1))
  obtain ⟨_, y1, _⟩ := h.row.el hi
  have f1 := h.row.fz (i * 3 + 1)
  clear h h2 h3
  go_enter Try.func13, Try.ntmps13
  go_wp2_with (go_at_call 28; (with_reducible refine hf.out.mono ?_); rintro r w1 ⟨rfl, rfl⟩)
  go_ret
  exact ⟨rfl, HP.out⟩

set_option maxRecDepth 100000 in
set_option maxRecDepth 100000 in
set_option maxHeartbeats 2000000 in
theorem dec_keep {w : World} {S : Nat} {L : List Slt} {g : Nat} {F : Option Addr} {c m e : Nat} {d : Nat → Nat} {b : Int} (h : Sto w S L (some ⟨g, 0, none⟩) c F m e d b) (i : Nat) (stamp : Int) (hi : i < L.length) (h2 : (gt L i).ct ≠ 0) (h3 : (gt L i).st = stamp) (h4 : 1 < (gt L i).ct) (h5 : (gt L i).ct ≤ 100000) :
    Calls Try.prog 15 #[.pointer (some ⟨S, 0, none⟩), .int .i64 (i : Int), .int .i64 stamp] w fun r w' => r = .returned (.int .i64 0) ∧ Sto w' S (L.set i ⟨(gt L i).st, (gt L i).ct - 1, (gt L i).tx⟩) (some ⟨g, 0, none⟩) c F m e d b ∧ w.grownBy w' (some g) := by
  have hf := Lib.hid (find_ok h i stamp hi h2 h3)
  have HP := Lib.hid (h.put1 hi ((gt L i).ct - 1))
  obtain ⟨_, y1, _⟩ := h.row.el hi
  have f1 := h.row.fz (i * 3 + 1)
  have hne : ((gt L i).ct - 1 == 0) = false := beq_eq_false_iff_ne.2 (by omega)
  have hne2 : ¬ (gt L i).ct - 1 = 0 := by omega
  clear h h2 h3
  go_enter Try.func15, Try.ntmps15
  go_wp2_with (go_at_call 28; (with_reducible refine hf.out.mono ?_); rintro r w1 ⟨rfl, rfl⟩)
  go_ret
  exact ⟨rfl, HP.out⟩

set_option maxRecDepth 100000 in
set_option maxRecDepth 100000 in
set_option maxHeartbeats 2000000 in
theorem dec_free {w : World} {S : Nat} {L : List Slt} {g : Nat} {F : Option Addr} {c m e : Nat} {d : Nat → Nat} {b : Int} (h : Sto w S L (some ⟨g, 0, none⟩) c F m e d b) (i : Nat) (stamp : Int) (hi : i < L.length) (h3 : (gt L i).st = stamp) (h4 : (gt L i).ct = 1) (hm : m ≤ 90000) (hh : Hp m d) (hb0 : 0 ≤ b - ((gt L i).tx.size : Int)) (hb1 : b ≤ 1000000000) (hb2 : (gt L i).tx.size ≤ 100000) (d1 : Nat → Nat) (e1 : ∀ k, k < m → d1 k = d k) (e2 : d1 m = i) :
    Calls Try.prog 15 #[.pointer (some ⟨S, 0, none⟩), .int .i64 (i : Int), .int .i64 stamp] w fun r w' => r = .returned (.int .i64 0) ∧ ∃ F' e' d', Sto w' S (L.set i ⟨(gt L i).st, 0, ⟨#[]⟩⟩) (some ⟨g, 0, none⟩) c F' (m + 1) e' d' (b - ((gt L i).tx.size : Int)) ∧ Hp (m + 1) d' ∧ Pm (m + 1) d1 d' ∧ Chg (fun k => k = g ∨ kF S F k) w w' ∧ (∀ k, F'.map (·.block) = some k → F.map (·.block) = some k ∨ w.heap.size ≤ k) := by
  have hf := Lib.hid (find_ok h i stamp hi (by omega) h3)
  obtain ⟨_, y1, y2⟩ := h.row.el hi
  rw [h4] at y1
  have f1 := h.row.fz (i * 3 + 1)
  have f2 := h.row.fz (i * 3 + 2)
  have x2 := h.fre.c2
  have fx := h.fre.fz 2
  have hgS := h.gS
  have hgS2 : S ≠ g := fun e => hgS e.symm
  have s1 := (h.put1 hi 0)
  have s2 := s1.1.setB (b - ((gt L i).tx.size : Int))
  have s3 := s2.1.put2 (i := i) (by rw [List.length_set]; exact hi) ⟨#[]⟩
  have g1 := gt_set_same ⟨(gt L i).st, 0, (gt L i).tx⟩ hi
  rw [List.set_set, g1] at s3
  have HS := Lib.hid (heapPush_any (s3.1.drewN 1).fre hm hh i d1 e1 e2)
  have HS3 := Lib.hid (s3.1.drewN 1)
  have HC : Hid (Chg (fun k => k = g ∨ kF S F k) w ((((w.setCell ⟨g, i * 3 + 1, none⟩ (.int .i64 0)).setCell ⟨S, 2, none⟩ (.int .i64 (b - ((gt L i).tx.size : Int)))).setCell ⟨g, i * 3 + 2, none⟩ (.string ⟨#[]⟩)).drewN 1)) :=
    Lib.hid (((((Chg.refl _ w).setCell (p := ⟨g, i * 3 + 1, none⟩) (.inl (.inl rfl)) _).setCell (p := ⟨S, 2, none⟩) (.inl (.inr (.inl rfl))) _).setCell (p := ⟨g, i * 3 + 2, none⟩) (.inl (.inl rfl)) _).drewN 1)
  clear s1 s2 s3 g1 h e1 e2 hh
  go_enter Try.func15, Try.ntmps15
  go_wp2_with (go_at_call 28; (with_reducible refine hf.out.mono ?_); rintro r w1 ⟨rfl, rfl⟩)
  go_region
  all_goals
    go_wp2_with fail
    change Calls _ _ _ (World.drewN _ 1) _
    refine HS.out.mono ?_
    rintro r w4 ⟨rfl, F', e', d', k1, k2, k3, k4, k5⟩
    replace k1 := Lib.hid k1
    replace k2 := Lib.hid k2
    replace k3 := Lib.hid k3
    replace k4 := Lib.hid k4
    replace k5 := Lib.hid k5
    go_wp2
    go_ret
    refine ⟨rfl, F', e', d', ⟨k1.out, HS3.out.row.chg k4.out (fun k hk => ?_)⟩, k2.out, k3.out, HC.out.trans k4.out (fun k _ hk => .inr hk), fun k hk => (k5.out k hk).imp id (fun h => ?_)⟩
    · rintro (h | h)
      · exact HS3.out.neA (by rw [hk, h])
      · exact HS3.out.neAF hk h
    · exact Nat.le_trans HC.out.size h
end Go.Proofs.Ytacanobhfebnaaa
