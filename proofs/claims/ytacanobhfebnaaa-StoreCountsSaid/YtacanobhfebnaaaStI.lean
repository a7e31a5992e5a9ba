/-
  PACKAGE store: the store as a whole; Put, Inc, Dec.
-/
import Derived.Test.YtacanobhfebnaaaStH
namespace Go.Proofs.Ytacanobhfebnaaa
open Go.RowKit
open St

/-- Bounds of what the slots hold; a free slot has no bytes. -/
structure Bd (T : Int) (L : List Slt) : Prop where
  len : (L.length : Int) ≤ T
  st : ∀ i, i < L.length → 0 ≤ (gt L i).st ∧ (gt L i).st ≤ T
  ct : ∀ i, i < L.length → (gt L i).ct ≤ T
  tx : ∀ i, i < L.length → (gt L i).tx.size ≤ 400
  emp : ∀ i, i < L.length → (gt L i).ct = 0 → (gt L i).tx = ⟨#[]⟩
set_option maxRecDepth 100000 in
theorem Bd.nil : Bd 0 [] := ⟨by simp, fun i h => by simp at h, fun i h => by simp at h, fun i h => by simp at h, fun i h => by simp at h⟩
set_option maxRecDepth 100000 in
theorem Bd.mono {T T' : Int} {L : List Slt} (h : Bd T L) (hT : T ≤ T') : Bd T' L := ⟨Int.le_trans h.len hT, fun i hi => ⟨(h.st i hi).1, Int.le_trans (h.st i hi).2 hT⟩, fun i hi => Int.le_trans (h.ct i hi) hT, h.tx, h.emp⟩
set_option maxRecDepth 100000 in
theorem Bd.set {T : Int} {L : List Slt} (h : Bd T L) (i : Nat) (s : Slt) (h1 : 0 ≤ s.st ∧ s.st ≤ T + 1) (h2 : s.ct ≤ T + 1) (h3 : s.tx.size ≤ 400) (h4 : s.ct = 0 → s.tx = ⟨#[]⟩) : Bd (T + 1) (L.set i s) := by
  have hl := h.len
  have key : ∀ k, k < (L.set i s).length → gt (L.set i s) k = s ∨ (k < L.length ∧ gt (L.set i s) k = gt L k) := by
    intro k hk
    rw [List.length_set] at hk
    by_cases e : i = k
    · subst e; exact .inl (gt_set_same _ hk)
    · exact .inr ⟨hk, gt_set_other _ e⟩
  refine ⟨by rw [List.length_set]; omega, fun k hk => ?_, fun k hk => ?_, fun k hk => ?_, fun k hk hc => ?_⟩
  · rcases key k hk with e | ⟨hk2, e⟩ <;> rw [e]
    · exact h1
    · have := h.st k hk2; omega
  · rcases key k hk with e | ⟨hk2, e⟩ <;> rw [e]
    · exact h2
    · have := h.ct k hk2; omega
  · rcases key k hk with e | ⟨hk2, e⟩ <;> rw [e]
    · exact h3
    · exact h.tx k hk2
  · rcases key k hk with e | ⟨hk2, e⟩
    · rw [e] at hc ⊢; exact h4 hc
    · rw [e] at hc ⊢; exact h.emp k hk2 hc
set_option maxRecDepth 100000 in
theorem Bd.put {T : Int} {L : List Slt} (h : Bd T L) (hT : 0 ≤ T) (b : ByteArray) (hb : b.size ≤ 400) : Bd (T + 1) (putL L b) := by
  unfold putL
  split
  · next hl =>
    have := h.st _ hl
    exact h.set _ _ ⟨by simp only; omega, by simp only; omega⟩ (by simp only; omega) hb (fun h => by simp at h)
  · have hl := h.len
    have key : ∀ k, k < (L ++ [(⟨1, 1, b⟩ : Slt)]).length → gt (L ++ [(⟨1, 1, b⟩ : Slt)]) k = ⟨1, 1, b⟩ ∨ (k < L.length ∧ gt (L ++ [(⟨1, 1, b⟩ : Slt)]) k = gt L k) := by
      intro k hk
      by_cases e : k < L.length
      · exact .inr ⟨e, gt_old _ e⟩
      · simp at hk
        rw [show k = L.length by omega]
        exact .inl (gt_new _ _)
    refine ⟨by simp; omega, fun k hk => ?_, fun k hk => ?_, fun k hk => ?_, fun k hk hc => ?_⟩
    · rcases key k hk with e | ⟨hk2, e⟩ <;> rw [e]
      · simp only; omega
      · have := h.st k hk2; omega
    · rcases key k hk with e | ⟨hk2, e⟩ <;> rw [e]
      · simp only; omega
      · have := h.ct k hk2; omega
    · rcases key k hk with e | ⟨hk2, e⟩ <;> rw [e]
      · exact hb
      · exact h.tx k hk2
    · rcases key k hk with e | ⟨hk2, e⟩
      · rw [e] at hc; simp at hc
      · rw [e] at hc ⊢; exact h.emp k hk2 hc
set_option maxRecDepth 100000 in
theorem Bd.cnt {T : Int} {L : List Slt} (h : Bd T L) {i : Nat} (hi : i < L.length) (k : Int) (hk : k ≤ 1) : Bd (T + 1) (cntL L i k) := by
  have h1 := h.st i hi
  have h2 := h.ct i hi
  refine h.set _ _ ⟨by simp only; omega, by simp only; omega⟩ (by simp only; omega) ?_ (fun h => ?_)
  · show (if (gt L i).ct + k = 0 then (⟨#[]⟩ : ByteArray) else (gt L i).tx).size ≤ 400
    split
    · exact Nat.zero_le _
    · exact h.tx i hi
  · simp only at h ⊢
    rw [if_pos h]
set_option maxRecDepth 100000 in
theorem sumb_le {T : Int} {L : List Slt} (h : Bd T L) : sumb L ≤ 400 * L.length := by
  have key : ∀ M : List Slt, (∀ i, i < M.length → (gt M i).tx.size ≤ 400) → sumb M ≤ 400 * M.length := by
    intro M
    induction M with
    | nil => intro _; simp [sumb]
    | cons a M ih =>
      intro hM
      have h0 := hM 0 (by simp)
      have h1 := ih (fun i hi => by have := hM (i + 1) (by simpa using hi); simpa [gt] using this)
      simp only [sumb, List.length_cons]
      simp [gt] at h0
      omega
  exact key L h.tx

/-- A store, and the blocks that it lies in. -/
def Str (w : World) (K : Nat → Prop) (S : Nat) (L : List Slt) : Prop :=
  ∃ A c F m e d, Sto w S L A c F m e d (sumb L : Int) ∧ Inv L m d ∧ (∀ k, kS S A F k → K k) ∧ ∀ k, K k → k < w.heap.size
set_option maxRecDepth 100000 in
theorem Sto.lt {w : World} {S : Nat} {L : List Slt} {A F : Option Addr} {c m e : Nat} {d : Nat → Nat} {b : Int} (h : Sto w S L A c F m e d b) : ∀ k, kS S A F k → k < w.heap.size := by
  rintro k (hk | hk | hk)
  · exact h.row.lt hk
  · rw [hk]; exact h.fre.lt
  · exact (World.ownsRow.lt h.fre.row k (by rw [own_of]; exact hk)).2
set_option maxRecDepth 100000 in
theorem Str.chg {w w' : World} {K K' : Nat → Prop} {S : Nat} {L : List Slt} (h : Str w K S L) (hc : Chg K' w w') (hd : ∀ k, K k → ¬ K' k) : Str w' K S L := by
  obtain ⟨A, c, F, m, e, d, hs, hi, hk, hl⟩ := h
  refine ⟨A, c, F, m, e, d, ⟨hs.fre.chg hc (hd _ (hk _ (.inr (.inl rfl)))) (fun k h => hd k (hk k (.inr (.inr h)))), hs.row.chg hc (fun k h => hd k (hk k (.inl h)))⟩, hi, hk, fun k h => Nat.lt_of_lt_of_le (hl k h) hc.size⟩
set_option maxRecDepth 100000 in
theorem Str.drewN {w : World} {K : Nat → Prop} {S : Nat} {L : List Slt} (h : Str w K S L) (q : Nat) : Str (w.drewN q) K S L := by
  obtain ⟨A, c, F, m, e, d, hs, hi, hk, hl⟩ := h
  exact ⟨A, c, F, m, e, d, hs.drewN q, hi, hk, hl⟩
/-- What a call leaves that turns a store. -/
def StP (w : World) (K : Nat → Prop) (S : Nat) (L' : List Slt) (w' : World) : Prop :=
  ∃ K', Str w' K' S L' ∧ Chg K w w' ∧ ∀ k, K' k → K k ∨ w.heap.size ≤ k
set_option maxRecDepth 100000 in
theorem StP.of {w w' : World} {K : Nat → Prop} {S : Nat} {L' : List Slt} {A F : Option Addr} {c m e : Nat} {d : Nat → Nat} (hs : Sto w' S L' A c F m e d (sumb L' : Int)) (hi : Inv L' m d) (hc : Chg K w w') (hk : ∀ k, kS S A F k → K k ∨ w.heap.size ≤ k) : StP w K S L' w' :=
  ⟨kS S A F, ⟨A, c, F, m, e, d, hs, hi, fun _ h => h, hs.lt⟩, hc, hk⟩

set_option maxRecDepth 100000 in
set_option maxRecDepth 100000 in
set_option maxHeartbeats 2000000 in
theorem put_long (S : Nat) (b : ByteArray) (hb : 400 < b.size) (hb2 : b.size ≤ 140737488355328) (w : World) :
    Calls Try.prog 10 #[.pointer (some ⟨S, 0, none⟩), .string b] w fun r w' => r = .returned (.tuple #[.int .i64 0, .int .i64 0, .int .i64 2]) ∧ w = w' := by
  have hd : decide ((400 : Int) < (b.size : Int)) = true := decide_eq_true (by omega)
  go_enter Try.func10, Try.ntmps10
  go_wp2
  go_ret3
  exact ⟨rfl, rfl⟩

set_option maxRecDepth 100000 in
theorem Sto.below {w w' : World} {S : Nat} {L : List Slt} {A F : Option Addr} {c m e : Nat} {d : Nat → Nat} {b : Int} (h : Sto w S L A c F m e d b) (hb : Below w.heap.size w w') : Sto w' S L A c F m e d b :=
  ⟨h.fre.chg (Chg.below (K := fun _ => False) hb) (fun h => h) (fun _ _ h => h), h.row.chg (Chg.below (K := fun _ => False) hb) (fun _ _ h => h)⟩

/-- What smallest leaves, for Put. -/
def SmP (w : World) (K : Nat → Prop) (S : Nat) (L1 L' : List Slt) (b : Int) (w1 : World) : Prop :=
  ∃ A c F m e d, Sto w1 S L1 A c F m e d b ∧ Inv L' m d ∧ Chg K w w1 ∧ ∀ k, kS S A F k → K k ∨ w.heap.size ≤ k

set_option maxRecDepth 100000 in
set_option maxRecDepth 100000 in
set_option maxHeartbeats 4000000 in
theorem put_from {w : World} {K : Nat → Prop} {S : Nat} {L1 : List Slt} {b : ByteArray} {i : Nat} {z : Int}
    (hm : Calls Try.prog 26 #[.pointer (some ⟨S, 0, none⟩)] w fun r w' => r = .returned (.int .i64 (i : Int)) ∧ SmP w K S L1 (L1.set i ⟨(gt L1 i).st + 1, 1, b⟩) z w')
    (hi : i < L1.length) (hn : L1.length ≤ 100000) (h0 : 0 ≤ (gt L1 i).st) (h1 : (gt L1 i).st ≤ 1000000) (hb : b.size ≤ 400) (hz0 : 0 ≤ z) (hz : z ≤ 1000000000) (hz2 : z + (b.size : Int) = (sumb (L1.set i ⟨(gt L1 i).st + 1, 1, b⟩) : Int)) (hK : K S) :
    Calls Try.prog 10 #[.pointer (some ⟨S, 0, none⟩), .string b] w fun r w' => r = .returned (.tuple #[.int .i64 (i : Int), .int .i64 ((gt L1 i).st + 1), .int .i64 0]) ∧ StP w K S (L1.set i ⟨(gt L1 i).st + 1, 1, b⟩) w' := by
  have hd : decide ((400 : Int) < (b.size : Int)) = false := decide_eq_false (by omega)
  have HM := Lib.hid hm
  have hil : decide ((i : Int) < (L1.length : Int)) = true := decide_eq_true (by omega)
  replace hz2 := Lib.hid hz2
  clear hm
  go_enter Try.func10, Try.ntmps10
  go_wp2_with (first
    | (go_at_call 26; (with_reducible refine HM.out.mono ?_); rintro r w1 ⟨rfl, A, c, F, m, e, d, hs, hv, hc, hk⟩; obtain ⟨g, rfl, _⟩ := hs.row.some (by omega); obtain ⟨y0, y1, y2⟩ := hs.row.el hi; have x0 := hs.fre.c0; have f0 := hs.row.fz (i * 3); have f1 := hs.row.fz (i * 3 + 1); have P0 := hs.put0 hi ((gt L1 i).st + 1); have P1 := P0.1.put1 (i := i) (by rw [List.length_set]; exact hi) 1; rw [gt_set_same _ hi, List.set_set] at P1; replace P1 := Lib.hid P1.1; have hgS := hs.gS; have hgS2 := hgS.symm; clear P0; replace hs := Lib.hid hs; replace hv := Lib.hid hv; replace hc := Lib.hid hc; replace hk := Lib.hid hk)
    | (go_at_call 27; (with_reducible refine (clone_any b (by omega) _).mono ?_); rintro r w2 ⟨rfl, hb2⟩; have s2 := P1.out.below hb2; obtain ⟨z0, z1, z2⟩ := s2.row.el (i := i) (by rw [List.length_set]; exact hi); rw [gt_set_same _ hi] at z0 z1 z2; have x2 := s2.fre.c2; have g0 := s2.row.fz (i * 3 + 2); have g2 := s2.fre.fz 2; replace s2 := Lib.hid s2; replace hb2 := Lib.hid hb2))
  go_quiet (fail)
  go_wp2
  go_ret3
  have hi2 : i < (L1.set i ⟨(gt L1 i).st + 1, 1, (gt L1 i).tx⟩).length := by rw [List.length_set]; exact hi
  have Q0 := s2.out.put2 hi2 b
  rw [gt_set_same _ hi, List.set_set] at Q0
  have Q1 := (Q0.1.setB (z + (b.size : Int))).1
  have hkg : K g ∨ w.heap.size ≤ g := hk.out g (.inl rfl)
  have hc1 := (hc.out.setCell (p := ⟨g, i * 3, none⟩) hkg (.int .i64 ((gt L1 i).st + 1))).setCell (p := ⟨g, i * 3 + 1, none⟩) hkg (.int .i64 1)
  have hc2 := hc1.trans (Chg.below (K := fun _ => False) hb2.out) (fun _ _ h => h.elim)
  have hc3 := ((hc2.setCell (p := ⟨g, i * 3 + 2, none⟩) hkg (.string b)).setCell (p := ⟨S, 2, none⟩) (.inl hK) (.int .i64 (z + (b.size : Int))))
  exact ⟨rfl, StP.of (by rw [← hz2.out]; exact Q1.drewN _) hv.out (hc3.drewN _) hk.out⟩

set_option maxRecDepth 100000 in
theorem putL_len (L : List Slt) (b : ByteArray) : (putL L b).length = if fr L < L.length then L.length else L.length + 1 := by
  unfold putL
  split <;> simp
set_option maxRecDepth 100000 in
theorem put_any {w : World} {K : Nat → Prop} {S : Nat} {L : List Slt} {T : Int} (h : Str w K S L) (hT : Bd T L) (hT2 : T ≤ 1000) (b : ByteArray) (hb : b.size ≤ 400) :
    Calls Try.prog 10 #[.pointer (some ⟨S, 0, none⟩), .string b] w fun r w' => r = .returned (.tuple #[.int .i64 (fr L : Int), .int .i64 (gt (putL L b) (fr L)).st, .int .i64 0]) ∧ StP w K S (putL L b) w' := by
  obtain ⟨A, c, F, m, e, d, hs, hi, hk, hl⟩ := h
  have hlen := hT.len
  have hsum := sumb_le hT
  have hKS : K S := hk S (.inr (.inl rfl))
  cases m with
  | zero =>
    obtain ⟨i1, e1⟩ := hi.grow b
    have e0 := hi.empty
    have hgz : gt (L ++ [Slt.zero]) L.length = Slt.zero := gt_new _ _
    have hcalls : Calls Try.prog 26 #[.pointer (some ⟨S, 0, none⟩)] w fun r w' => r = .returned (.int .i64 (L.length : Int)) ∧ SmP w K S (L ++ [Slt.zero]) ((L ++ [Slt.zero]).set L.length ⟨(gt (L ++ [Slt.zero]) L.length).st + 1, 1, b⟩) (sumb L : Int) w' := by
      refine (smallest_new hs (by omega)).mono ?_
      rintro r w' ⟨rfl, A', c', hs', hc', hk'⟩
      refine ⟨rfl, A', c', F, 0, e, d, hs', ?_, hc'.mono (fun k _ => hk k), fun k hkk => ?_⟩
      · rw [hgz]
        show Inv ((L ++ [Slt.zero]).set L.length ⟨1, 1, b⟩) 0 d
        rw [← e1]
        exact i1
      · rcases hkk with h1 | h1
        · exact (hk' k h1).imp (fun h => hk k (.inl h)) (fun h => h)
        · exact .inl (hk k (.inr h1))
    have he2 : (L ++ [Slt.zero]).set L.length ⟨(gt (L ++ [Slt.zero]) L.length).st + 1, 1, b⟩ = putL L b := by rw [hgz, e1]; rfl
    have hsz : (sumb L : Int) + (b.size : Int) = (sumb ((L ++ [Slt.zero]).set L.length ⟨(gt (L ++ [Slt.zero]) L.length).st + 1, 1, b⟩) : Int) := by
      rw [he2]
      unfold putL
      rw [if_neg (by omega), sumb_snoc]
      simp
    refine (put_from hcalls (by simp) (by simp; omega) (by rw [hgz]; simp [Slt.zero]) (by rw [hgz]; simp [Slt.zero]) hb (by omega) (by omega) hsz hKS).mono ?_
    rintro r w' ⟨rfl, h2⟩
    rw [he2] at h2
    refine ⟨?_, h2⟩
    have e3 : gt (putL L b) (fr L) = ⟨1, 1, b⟩ := by rw [e0, e1]; exact gt_set_same _ (by simp)
    rw [e3, e0, hgz]
    rfl
  | succ m =>
    have e0 := hi.first
    obtain ⟨hd1, hd2⟩ := hi.lt 0 (by omega)
    have hmL : m + 1 ≤ L.length := by have := hi.cnt; omega
    have e1 : putL L b = L.set (d 0) ⟨(gt L (d 0)).st + 1, 1, b⟩ := by unfold putL; rw [e0, if_pos hd1]
    have hcalls : Calls Try.prog 26 #[.pointer (some ⟨S, 0, none⟩)] w fun r w' => r = .returned (.int .i64 ((d 0 : Nat) : Int)) ∧ SmP w K S L (L.set (d 0) ⟨(gt L (d 0)).st + 1, 1, b⟩) (sumb L : Int) w' := by
      refine (smallest_old hs (by omega) hi.hp).mono ?_
      rintro r w' ⟨rfl, d', hs', hp', pm', hc'⟩
      refine ⟨rfl, A, c, F, m, e, d', hs', ?_, hc'.mono (fun k _ => hk k), fun k hkk => .inl (hk k hkk)⟩
      rw [← e1]
      exact (hi.take b hp' pm').1
    have hst := hT.st _ hd1
    have hsz : (sumb L : Int) + (b.size : Int) = (sumb (L.set (d 0) ⟨(gt L (d 0)).st + 1, 1, b⟩) : Int) := by
      have := sumb_set L (d 0) ⟨(gt L (d 0)).st + 1, 1, b⟩ hd1
      rw [hT.emp _ hd1 hd2] at this
      simp only at this
      have e : (⟨#[]⟩ : ByteArray).size = 0 := rfl
      omega
    refine (put_from hcalls hd1 (by omega) hst.1 (by omega) hb (by omega) (by omega) hsz hKS).mono ?_
    rintro r w' ⟨rfl, h2⟩
    rw [← e1] at h2
    refine ⟨?_, h2⟩
    rw [e0, e1, gt_set_same _ hd1]

set_option maxRecDepth 100000 in
theorem inc_any {w : World} {K : Nat → Prop} {S : Nat} {L : List Slt} {T : Int} (h : Str w K S L) (hT : Bd T L) (hT2 : T ≤ 1000) (slot stamp : Int) :
    Calls Try.prog 13 #[.pointer (some ⟨S, 0, none⟩), .int .i64 slot, .int .i64 stamp] w fun r w' => r = .returned (.int .i64 (err L slot stamp)) ∧ StP w K S (if err L slot stamp = 0 then cntL L slot.toNat 1 else L) w' := by
  obtain ⟨A, c, F, m, e, d, hs, hi, hk, hl⟩ := h
  have hlen := hT.len
  by_cases he : err L slot stamp = 0
  · rcases err_cases L slot stamp with ⟨h1, _⟩ | ⟨h1, _⟩ | ⟨h1, i, rfl, hil, h2, h3⟩
    · omega
    · omega
    · obtain ⟨g, rfl, _⟩ := hs.row.some (by omega)
      have h4 := hi.pos i hil
      have h5 := hT.ct i hil
      rw [if_pos he, he, show ((i : Int)).toNat = i by omega]
      refine (inc_ok hs i stamp hil h2 h3 h4 (by omega)).mono ?_
      rintro r w' ⟨rfl, hs', hg'⟩
      have e1 : cntL L i 1 = L.set i ⟨(gt L i).st, (gt L i).ct + 1, (gt L i).tx⟩ := by unfold cntL; rw [if_neg (by omega)]
      have e2 := sumb_set L i ⟨(gt L i).st, (gt L i).ct + 1, (gt L i).tx⟩ hil
      have e3 : sumb (cntL L i 1) = sumb L := by rw [e1]; simp only at e2; omega
      refine ⟨rfl, StP.of (A := some ⟨g, 0, none⟩) (c := c) (F := F) (m := m) (e := e) (d := d) ?_ (hi.count hil h2 1 (by omega)) (Chg.grown hg' (fun k hkk => hk k (.inl hkk))) (fun k hkk => .inl (hk k hkk))⟩
      rw [e3, e1]
      exact hs'
  · rw [if_neg he]
    refine (inc_bad hs (by omega) slot stamp he).mono ?_
    rintro r w' ⟨rfl, rfl⟩
    exact ⟨rfl, StP.of hs hi (Chg.refl _ _) (fun k hkk => .inl (hk k hkk))⟩

set_option maxRecDepth 100000 in
theorem dec_any {w : World} {K : Nat → Prop} {S : Nat} {L : List Slt} {T : Int} (h : Str w K S L) (hT : Bd T L) (hT2 : T ≤ 1000) (slot stamp : Int) :
    Calls Try.prog 15 #[.pointer (some ⟨S, 0, none⟩), .int .i64 slot, .int .i64 stamp] w fun r w' => r = .returned (.int .i64 (err L slot stamp)) ∧ StP w K S (if err L slot stamp = 0 then cntL L slot.toNat (-1) else L) w' := by
  obtain ⟨A, c, F, m, e, d, hs, hi, hk, hl⟩ := h
  have hlen := hT.len
  have hsum := sumb_le hT
  have hcnt := hi.cnt
  by_cases he : err L slot stamp = 0
  · rcases err_cases L slot stamp with ⟨h1, _⟩ | ⟨h1, _⟩ | ⟨h1, i, rfl, hil, h2, h3⟩
    · omega
    · omega
    · obtain ⟨g, rfl, _⟩ := hs.row.some (by omega)
      have h4 := hi.pos i hil
      have h5 := hT.ct i hil
      have h6 := hT.tx i hil
      rw [if_pos he, he, show ((i : Int)).toNat = i by omega]
      by_cases h7 : (gt L i).ct = 1
      · have e1 : cntL L i (-1) = L.set i ⟨(gt L i).st, 0, ⟨#[]⟩⟩ := by unfold cntL; rw [if_pos (by omega), h7]; rfl
        have e2 := sumb_set L i ⟨(gt L i).st, 0, ⟨#[]⟩⟩ hil
        have e3 : (sumb (cntL L i (-1)) : Int) = (sumb L : Int) - ((gt L i).tx.size : Int) := by
          rw [e1]
          have e : (⟨#[]⟩ : ByteArray).size = 0 := rfl
          simp only at e2
          omega
        refine (dec_free hs i stamp hil h3 h7 (by omega) hi.hp (by omega) (by omega) (by omega) (fun k => if k = m then i else d k) (fun k hk => if_neg (by omega)) (by simp)).mono ?_
        rintro r w' ⟨rfl, F', e', d', hs', hp', pm', hc', hk'⟩
        refine ⟨rfl, StP.of (A := some ⟨g, 0, none⟩) (c := c) (F := F') (m := m + 1) (e := e') (d := d') ?_ (hi.free hil h2 (-1) (by omega) (fun k hk => if_neg (by omega)) (by simp) hp' pm') (hc'.mono (fun k _ hkk => ?_)) (fun k hkk => ?_)⟩
        · rw [e3, e1]
          exact hs'
        · rcases hkk with rfl | hkk
          · exact hk _ (.inl rfl)
          · exact hk _ (.inr hkk)
        · rcases hkk with h8 | h8 | h8
          · exact .inl (hk k (.inl h8))
          · exact .inl (hk k (.inr (.inl h8)))
          · exact (hk' k h8).imp (fun h => hk k (.inr (.inr h))) (fun h => h)
      · have e1 : cntL L i (-1) = L.set i ⟨(gt L i).st, (gt L i).ct - 1, (gt L i).tx⟩ := by unfold cntL; rw [if_neg (by omega)]; rfl
        have e2 := sumb_set L i ⟨(gt L i).st, (gt L i).ct - 1, (gt L i).tx⟩ hil
        have e3 : sumb (cntL L i (-1)) = sumb L := by rw [e1]; simp only at e2; omega
        refine (dec_keep hs i stamp hil h2 h3 (by omega) (by omega)).mono ?_
        rintro r w' ⟨rfl, hs', hg'⟩
        refine ⟨rfl, StP.of (A := some ⟨g, 0, none⟩) (c := c) (F := F) (m := m) (e := e) (d := d) ?_ (hi.count hil h2 (-1) (by omega)) (Chg.grown hg' (fun k hkk => hk k (.inl hkk))) (fun k hkk => .inl (hk k hkk))⟩
        rw [e3, e1]
        exact hs'
  · rw [if_neg he]
    refine (dec_bad hs (by omega) slot stamp he).mono ?_
    rintro r w' ⟨rfl, rfl⟩
    exact ⟨rfl, StP.of hs hi (Chg.refl _ _) (fun k hkk => .inl (hk k hkk))⟩
end Go.Proofs.Ytacanobhfebnaaa
