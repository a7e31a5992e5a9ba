/-
  A HEAP THAT LIES IN A ROW (container/heap), and slots: plain mathematics. Nothing of the program stands here.
-/
namespace Go.Proofs.Ytacanobhfebnaaa
namespace St

/-- Two of a row change places. -/
def swp (d : Nat → Nat) (i j : Nat) : Nat → Nat := fun x => if x = j then d i else if x = i then d j else d x
set_option maxRecDepth 100000 in
theorem swp_j (d : Nat → Nat) (i j : Nat) : swp d i j j = d i := by simp [swp]
set_option maxRecDepth 100000 in
theorem swp_i (d : Nat → Nat) (i j : Nat) : swp d i j i = d j := by
  unfold swp
  split
  · next h => rw [h]
  · simp
set_option maxRecDepth 100000 in
theorem swp_o (d : Nat → Nat) {i j x : Nat} (h1 : x ≠ i) (h2 : x ≠ j) : swp d i j x = d x := by simp [swp, h1, h2]

/-- None lies above one that it is not lesser than: the row is a heap. -/
def Hp (n : Nat) (d : Nat → Nat) : Prop := ∀ k, 0 < k → k < n → d ((k - 1) / 2) ≤ d k
set_option maxRecDepth 100000 in
theorem Hp.min {n : Nat} {d : Nat → Nat} (h : Hp n d) : ∀ k, k < n → d 0 ≤ d k := by
  intro k
  induction k using Nat.strongRecOn with
  | ind k ih =>
    intro hk
    by_cases h0 : k = 0
    · subst h0; exact Nat.le_refl _
    · exact Nat.le_trans (ih ((k - 1) / 2) (by omega) (by omega)) (h k (by omega) hk)

/-- The same numbers stand in the first n places, in another order; behind them nothing has turned. -/
structure Pm (n : Nat) (d d' : Nat → Nat) : Prop where
  fro : ∀ k, k < n → ∃ l, l < n ∧ d' k = d l
  to : ∀ k, k < n → ∃ l, l < n ∧ d k = d' l
  inj : (∀ k l, k < n → l < n → d k = d l → k = l) → ∀ k l, k < n → l < n → d' k = d' l → k = l
  out : ∀ k, n ≤ k → d' k = d k
set_option maxRecDepth 100000 in
theorem Pm.refl (n : Nat) (d : Nat → Nat) : Pm n d d := ⟨fun k h => ⟨k, h, rfl⟩, fun k h => ⟨k, h, rfl⟩, fun h => h, fun _ _ => rfl⟩
set_option maxRecDepth 100000 in
theorem Pm.trans {n : Nat} {d d' d'' : Nat → Nat} (h : Pm n d d') (g : Pm n d' d'') : Pm n d d'' := by
  refine ⟨fun k hk => ?_, fun k hk => ?_, fun hi => g.inj (h.inj hi), fun k hk => (g.out k hk).trans (h.out k hk)⟩
  · obtain ⟨l, hl, e⟩ := g.fro k hk
    obtain ⟨l', hl', e'⟩ := h.fro l hl
    exact ⟨l', hl', e.trans e'⟩
  · obtain ⟨l, hl, e⟩ := h.to k hk
    obtain ⟨l', hl', e'⟩ := g.to l hl
    exact ⟨l', hl', e.trans e'⟩
set_option maxRecDepth 100000 in
theorem Pm.swp {n i j : Nat} (d : Nat → Nat) (hi : i < n) (hj : j < n) : Pm n d (swp d i j) := by
  have key : ∀ k, k < n → ∃ l, l < n ∧ St.swp d i j k = d l ∧ d k = St.swp d i j l := by
    intro k hk
    by_cases h1 : k = j
    · subst h1; exact ⟨i, hi, swp_j _ _ _, (swp_i _ _ _).symm⟩
    · by_cases h2 : k = i
      · subst h2; exact ⟨j, hj, swp_i _ _ _, (swp_j _ _ _).symm⟩
      · exact ⟨k, hk, swp_o _ h2 h1, (swp_o _ h2 h1).symm⟩
  refine ⟨fun k hk => ?_, fun k hk => ?_, fun hi' k l hk hl e => ?_, fun k hk => swp_o _ (by omega) (by omega)⟩
  · obtain ⟨l, h1, h2, _⟩ := key k hk; exact ⟨l, h1, h2⟩
  · obtain ⟨l, h1, _, h2⟩ := key k hk; exact ⟨l, h1, h2⟩
  · unfold St.swp at e
    by_cases k1 : k = j <;> by_cases k2 : k = i <;> by_cases l1 : l = j <;> by_cases l2 : l = i <;> simp only [k1, k2, l1, l2, if_true, if_false] at e <;> first
      | omega
      | (have := hi' _ _ (by omega) (by omega) e; omega)
      | (simp_all; first | done | (have := hi' _ _ (by omega) (by omega) e; omega) | (split at e <;> have := hi' _ _ (by omega) (by omega) e <;> omega))

/-- A heap, but where j stands. -/
structure UpI (n j : Nat) (d : Nat → Nat) : Prop where
  h1 : ∀ k, 0 < k → k < n → k ≠ j → d ((k - 1) / 2) ≤ d k
  h2 : ∀ k, 0 < k → k < n → (k - 1) / 2 = j → 0 < j → d ((j - 1) / 2) ≤ d k
set_option maxRecDepth 100000 in
theorem UpI.snoc {n : Nat} {d : Nat → Nat} (h : Hp n d) : UpI (n + 1) n d := ⟨fun k h0 hk hne => h k h0 (by omega), fun k h0 hk e _ => by omega⟩
set_option maxRecDepth 100000 in
theorem UpI.done {n j : Nat} {d : Nat → Nat} (h : UpI n j d) (hj : j = 0 ∨ d ((j - 1) / 2) ≤ d j) : Hp n d := by
  intro k h0 hk
  by_cases e : k = j
  · subst e
    rcases hj with hj | hj
    · omega
    · exact hj
  · exact h.h1 k h0 hk e
set_option maxRecDepth 100000 in
theorem UpI.step {n j : Nat} {d : Nat → Nat} (h : UpI n j d) (h0 : 0 < j) (hj : j < n) (hlt : d j < d ((j - 1) / 2)) : UpI n ((j - 1) / 2) (swp d ((j - 1) / 2) j) := by
  obtain ⟨i, hi⟩ : ∃ i, i = (j - 1) / 2 := ⟨_, rfl⟩
  have hij : i < j := by omega
  rw [← hi] at hlt ⊢
  refine ⟨fun k k0 hk hne => ?_, fun k k0 hk e i0 => ?_⟩
  · by_cases hkj : k = j
    · subst hkj
      rw [← hi, swp_i, swp_j]
      omega
    · rw [swp_o d hne hkj]
      by_cases p1 : (k - 1) / 2 = j
      · rw [p1, swp_j, hi]
        exact h.h2 k k0 hk p1 h0
      · by_cases p2 : (k - 1) / 2 = i
        · have := h.h1 k k0 hk hkj
          rw [p2] at this ⊢
          rw [swp_i]
          omega
        · rw [swp_o d p2 p1]
          exact h.h1 k k0 hk hkj
  · have hp := h.h1 i i0 (by omega) (by omega)
    rw [swp_o d (x := (i - 1) / 2) (by omega) (by omega)]
    by_cases hkj : k = j
    · subst hkj
      rw [swp_j]
      exact hp
    · rw [swp_o d (by omega) hkj]
      have := h.h1 k k0 hk hkj
      rw [e] at this
      omega

/-- A heap, but below i. -/
structure DnI (n i : Nat) (d : Nat → Nat) : Prop where
  h1 : ∀ k, 0 < k → k < n → (k - 1) / 2 ≠ i → d ((k - 1) / 2) ≤ d k
  h2 : ∀ k, 0 < k → k < n → (k - 1) / 2 = i → 0 < i → d ((i - 1) / 2) ≤ d k
set_option maxRecDepth 100000 in
theorem DnI.first {n : Nat} {d : Nat → Nat} (h : Hp (n + 1) d) : DnI n 0 (swp d 0 n) := by
  refine ⟨fun k k0 hk hne => ?_, fun k k0 hk e h => by omega⟩
  rw [swp_o d hne (by omega), swp_o d (by omega) (by omega)]
  exact h k k0 (by omega)
set_option maxRecDepth 100000 in
theorem DnI.done {n i : Nat} {d : Nat → Nat} (h : DnI n i d) (hc : ∀ k, 0 < k → k < n → (k - 1) / 2 = i → d i ≤ d k) : Hp n d := by
  intro k h0 hk
  by_cases e : (k - 1) / 2 = i
  · rw [e]; exact hc k h0 hk e
  · exact h.h1 k h0 hk e
set_option maxRecDepth 100000 in
theorem DnI.step {n i j : Nat} {d : Nat → Nat} (h : DnI n i d) (h0 : 0 < j) (hj : j < n) (e : (j - 1) / 2 = i) (hlt : d j < d i) (hc : ∀ k, 0 < k → k < n → (k - 1) / 2 = i → d j ≤ d k) : DnI n j (swp d i j) := by
  have hij : i < j := by omega
  refine ⟨fun k k0 hk hne => ?_, fun k k0 hk e' _ => ?_⟩
  · by_cases hkj : k = j
    · subst hkj
      rw [e, swp_i, swp_j]
      omega
    · by_cases p : (k - 1) / 2 = i
      · rw [p, swp_i, swp_o d (by omega) hkj]
        exact hc k k0 hk p
      · rw [swp_o d p hne]
        by_cases hki : k = i
        · subst hki
          rw [swp_i]
          exact h.h2 j h0 hj e k0
        · rw [swp_o d hki hkj]
          exact h.h1 k k0 hk p
  · rw [e, swp_i, swp_o d (by omega) (by omega)]
    have := h.h1 k k0 hk (by omega)
    rw [e'] at this
    exact this

/-- A slot: its stamp, its count, its bytes. -/
structure Slt where
  st : Int
  ct : Int
  tx : ByteArray
def Slt.zero : Slt := ⟨0, 0, ⟨#[]⟩⟩
def gt (L : List Slt) (i : Nat) : Slt := L.getD i Slt.zero
set_option maxRecDepth 100000 in
theorem gt_set_same {L : List Slt} {i : Nat} (s : Slt) (h : i < L.length) : gt (L.set i s) i = s := by simp [gt, h]
set_option maxRecDepth 100000 in
theorem gt_set_other {L : List Slt} {i j : Nat} (s : Slt) (h : i ≠ j) : gt (L.set i s) j = gt L j := by simp [gt, List.getElem?_set_ne h]
set_option maxRecDepth 100000 in
theorem gt_old {L : List Slt} {i : Nat} (s : Slt) (h : i < L.length) : gt (L ++ [s]) i = gt L i := by simp [gt, List.getElem?_append_left h]
set_option maxRecDepth 100000 in
theorem gt_new (L : List Slt) (s : Slt) : gt (L ++ [s]) L.length = s := by simp [gt]
set_option maxRecDepth 100000 in
theorem gt_get {L : List Slt} {i : Nat} (h : i < L.length) : L[i]? = some (gt L i) := by simp [gt, h]

/-- How many are in use; how many bytes there are. -/
def usd : List Slt → Nat
  | [] => 0
  | s :: L => (if 0 < s.ct then 1 else 0) + usd L
def sumb : List Slt → Nat
  | [] => 0
  | s :: L => s.tx.size + sumb L
set_option maxRecDepth 100000 in
theorem usd_snoc (L : List Slt) (s : Slt) : usd (L ++ [s]) = usd L + (if 0 < s.ct then 1 else 0) := by
  induction L with
  | nil => simp [usd]
  | cons a L ih => rw [List.cons_append, usd, ih, usd]; omega
set_option maxRecDepth 100000 in
theorem sumb_snoc (L : List Slt) (s : Slt) : sumb (L ++ [s]) = sumb L + s.tx.size := by
  induction L with
  | nil => simp [sumb]
  | cons a L ih => rw [List.cons_append, sumb, ih, sumb]; omega
set_option maxRecDepth 100000 in
theorem usd_set (L : List Slt) (i : Nat) (s : Slt) (h : i < L.length) : usd (L.set i s) + (if 0 < (gt L i).ct then 1 else 0) = usd L + (if 0 < s.ct then 1 else 0) := by
  induction L generalizing i with
  | nil => simp at h
  | cons a L ih =>
    cases i with
    | zero => simp [usd, gt]; omega
    | succ i =>
      have := ih i (by simpa using h)
      simp only [List.set_cons_succ, usd]
      have e : gt (a :: L) (i + 1) = gt L i := by simp [gt]
      rw [e]
      omega
set_option maxRecDepth 100000 in
theorem sumb_set (L : List Slt) (i : Nat) (s : Slt) (h : i < L.length) : sumb (L.set i s) + (gt L i).tx.size = sumb L + s.tx.size := by
  induction L generalizing i with
  | nil => simp at h
  | cons a L ih =>
    cases i with
    | zero => simp [sumb, gt]; omega
    | succ i =>
      have := ih i (by simpa using h)
      simp only [List.set_cons_succ, sumb]
      have e : gt (a :: L) (i + 1) = gt L i := by simp [gt]
      rw [e]
      omega

/-- The free slots stand in a row, as a heap; the counts are not below 0. -/
structure Inv (L : List Slt) (m : Nat) (d : Nat → Nat) : Prop where
  hp : Hp m d
  inj : ∀ k l, k < m → l < m → d k = d l → k = l
  lt : ∀ k, k < m → d k < L.length ∧ (gt L (d k)).ct = 0
  all : ∀ i, i < L.length → (gt L i).ct = 0 → ∃ k, k < m ∧ d k = i
  pos : ∀ i, i < L.length → 0 ≤ (gt L i).ct
  cnt : m + usd L = L.length
set_option maxRecDepth 100000 in
theorem Inv.nil (d : Nat → Nat) : Inv [] 0 d := ⟨fun k _ h => by omega, fun k l h => by omega, fun k h => by omega, fun i h => by simp at h, fun i h => by simp at h, rfl⟩

/-- The free slot with the smallest number. -/
def fr : List Slt → Nat
  | [] => 0
  | s :: L => if 0 < s.ct then fr L + 1 else 0
set_option maxRecDepth 100000 in
theorem fr_le (L : List Slt) : fr L ≤ L.length := by
  induction L with
  | nil => simp [fr]
  | cons a L ih => simp only [fr, List.length_cons]; split <;> omega
set_option maxRecDepth 100000 in
theorem fr_before (L : List Slt) : ∀ i, i < fr L → 0 < (gt L i).ct := by
  induction L with
  | nil => intro i h; simp [fr] at h
  | cons a L ih =>
    intro i h
    simp only [fr] at h
    split at h
    · next ha =>
      cases i with
      | zero => simpa [gt] using ha
      | succ i => simpa [gt] using ih i (by omega)
    · omega
set_option maxRecDepth 100000 in
theorem fr_at (L : List Slt) (h : fr L < L.length) : (gt L (fr L)).ct ≤ 0 := by
  induction L with
  | nil => simp at h
  | cons a L ih =>
    simp only [fr] at h ⊢
    split
    · next ha =>
      rw [if_pos ha] at h
      have := ih (by simpa using h)
      simpa [gt] using this
    · next ha => simpa [gt] using Int.not_lt.1 ha
set_option maxRecDepth 100000 in
theorem fr_eq {L : List Slt} {i : Nat} (hi : i ≤ L.length) (h1 : ∀ k, k < i → 0 < (gt L k).ct) (h2 : i < L.length → (gt L i).ct ≤ 0) : fr L = i := by
  have a := fr_le L
  rcases Nat.lt_trichotomy (fr L) i with h | h | h
  · have := fr_at L (by omega)
    have := h1 _ h
    omega
  · exact h
  · have := fr_before L i h
    have := h2 (by omega)
    omega
/-- What Put leaves. -/
def putL (L : List Slt) (b : ByteArray) : List Slt :=
  if fr L < L.length then L.set (fr L) ⟨(gt L (fr L)).st + 1, 1, b⟩ else L ++ [⟨1, 1, b⟩]
/-- The error of a slot and a stamp. -/
def err (L : List Slt) (slot stamp : Int) : Int :=
  if slot < 0 ∨ (L.length : Int) ≤ slot ∨ (gt L slot.toNat).ct = 0 then 4 else if (gt L slot.toNat).st = stamp then 0 else 6
/-- What Inc and Dec leave. -/
def cntL (L : List Slt) (i : Nat) (k : Int) : List Slt :=
  L.set i ⟨(gt L i).st, (gt L i).ct + k, if (gt L i).ct + k = 0 then ⟨#[]⟩ else (gt L i).tx⟩
set_option maxRecDepth 100000 in
theorem cntL_len (L : List Slt) (i : Nat) (k : Int) : (cntL L i k).length = L.length := by simp [cntL]

set_option maxRecDepth 100000 in
theorem Inv.empty {L : List Slt} {d : Nat → Nat} (h : Inv L 0 d) : fr L = L.length := by
  refine fr_eq (Nat.le_refl _) (fun k hk => ?_) (fun h => by omega)
  have h1 := h.pos k hk
  rcases Int.lt_or_eq_of_le h1 with h2 | h2
  · exact h2
  · obtain ⟨_, h3, _⟩ := h.all k hk h2.symm
    omega
set_option maxRecDepth 100000 in
theorem Inv.first {L : List Slt} {m : Nat} {d : Nat → Nat} (h : Inv L (m + 1) d) : fr L = d 0 := by
  obtain ⟨h1, h2⟩ := h.lt 0 (by omega)
  refine fr_eq (Nat.le_of_lt h1) (fun k hk => ?_) (fun _ => by omega)
  have h3 := h.pos k (by omega)
  rcases Int.lt_or_eq_of_le h3 with h4 | h4
  · exact h4
  · obtain ⟨q, h5, h6⟩ := h.all k (by omega) h4.symm
    have := h.hp.min q h5
    omega
set_option maxRecDepth 100000 in
/-- A new slot. -/
theorem Inv.grow {L : List Slt} {d : Nat → Nat} (h : Inv L 0 d) (b : ByteArray) : Inv (putL L b) 0 d ∧ putL L b = (L ++ [Slt.zero]).set L.length ⟨1, 1, b⟩ := by
  have e := h.empty
  have e2 : putL L b = L ++ [⟨1, 1, b⟩] := by unfold putL; rw [if_neg (by omega)]
  refine ⟨?_, by rw [e2]; simp⟩
  rw [e2]
  refine ⟨fun k _ h => by omega, fun k l h => by omega, fun k h => by omega, fun i hi hc => ?_, fun i hi => ?_, ?_⟩
  · rcases Nat.lt_or_ge i L.length with h1 | h1
    · rw [gt_old _ h1] at hc
      exact h.all i h1 hc
    · simp at hi
      rw [show i = L.length by omega, gt_new] at hc
      simp at hc
  · rcases Nat.lt_or_ge i L.length with h1 | h1
    · rw [gt_old _ h1]
      exact h.pos i h1
    · simp at hi
      rw [show i = L.length by omega, gt_new]
      simp
  · rw [usd_snoc]
    have := h.cnt
    simp
    omega
set_option maxRecDepth 100000 in
/-- The smallest one is taken out. -/
theorem Inv.take {L : List Slt} {m : Nat} {d d' : Nat → Nat} (h : Inv L (m + 1) d) (b : ByteArray) (hp : Hp m d') (pm : Pm m (swp d 0 m) d') : Inv (putL L b) m d' ∧ d 0 < L.length ∧ putL L b = L.set (d 0) ⟨(gt L (d 0)).st + 1, 1, b⟩ := by
  have e := h.first
  obtain ⟨h1, h2⟩ := h.lt 0 (by omega)
  have e2 : putL L b = L.set (d 0) ⟨(gt L (d 0)).st + 1, 1, b⟩ := by unfold putL; rw [e, if_pos h1]
  refine ⟨?_, h1, e2⟩
  rw [e2]
  have sw : ∀ k, k < m → ∃ l, l < m + 1 ∧ l ≠ 0 ∧ swp d 0 m k = d l := by
    intro k hk
    by_cases k0 : k = 0
    · subst k0
      refine ⟨m, by omega, by omega, swp_i _ _ _⟩
    · exact ⟨k, by omega, k0, swp_o _ k0 (by omega)⟩
  have ne : ∀ k, k < m → ∃ l, l < m + 1 ∧ d' k = d l ∧ d' k ≠ d 0 := by
    intro k hk
    obtain ⟨l, hl, e1⟩ := pm.fro k hk
    obtain ⟨l', hl', h0, e3⟩ := sw l hl
    refine ⟨l', hl', e1.trans e3, fun e4 => h0 ?_⟩
    exact h.inj l' 0 hl' (by omega) (by rw [← e3, ← e1]; exact e4)
  refine ⟨hp, pm.inj (fun k l hk hl e => ?_), fun k hk => ?_, fun i hi hc => ?_, fun i hi => ?_, ?_⟩
  · have := (Pm.swp d (show 0 < m + 1 by omega) (show m < m + 1 by omega)).inj h.inj k l (by omega) (by omega) e
    exact this
  · obtain ⟨l, hl, e1, e3⟩ := ne k hk
    obtain ⟨h3, h4⟩ := h.lt l hl
    rw [List.length_set, gt_set_other _ (fun e => e3 e.symm), e1]
    exact ⟨h3, h4⟩
  · rw [List.length_set] at hi
    by_cases hid : d 0 = i
    · subst hid
      rw [gt_set_same _ hi] at hc
      simp at hc
    · rw [gt_set_other _ hid] at hc
      obtain ⟨k, hk, e4⟩ := h.all i hi hc
      have k0 : k ≠ 0 := by rintro rfl; exact hid e4
      have : ∃ k', k' < m ∧ swp d 0 m k' = i := by
        by_cases hkm : k = m
        · subst hkm
          exact ⟨0, by omega, by rw [swp_i]; exact e4⟩
        · exact ⟨k, by omega, by rw [swp_o _ k0 hkm]; exact e4⟩
      obtain ⟨k', hk', e5⟩ := this
      obtain ⟨l, hl, e6⟩ := pm.to k' hk'
      exact ⟨l, hl, by rw [← e6]; exact e5⟩
  · rw [List.length_set] at hi
    by_cases hid : d 0 = i
    · subst hid
      rw [gt_set_same _ hi]
      simp
    · rw [gt_set_other _ hid]
      exact h.pos i hi
  · have a := usd_set L (d 0) ⟨(gt L (d 0)).st + 1, 1, b⟩ h1
    rw [h2] at a
    have := h.cnt
    simp at a ⊢
    omega
set_option maxRecDepth 100000 in
/-- One is counted, and stays in use. -/
theorem Inv.count {L : List Slt} {m : Nat} {d : Nat → Nat} (h : Inv L m d) {i : Nat} (hi : i < L.length) (h0 : (gt L i).ct ≠ 0) (k : Int) (hk : 0 < (gt L i).ct + k) : Inv (cntL L i k) m d := by
  have h1 := h.pos i hi
  unfold cntL
  refine ⟨h.hp, h.inj, fun q hq => ?_, fun q hq hc => ?_, fun q hq => ?_, ?_⟩
  · obtain ⟨h2, h3⟩ := h.lt q hq
    have : i ≠ d q := by rintro rfl; exact h0 h3
    rw [List.length_set, gt_set_other _ this]
    exact ⟨h2, h3⟩
  · rw [List.length_set] at hq
    by_cases e : i = q
    · subst e
      rw [gt_set_same _ hi] at hc
      simp only at hc
      omega
    · rw [gt_set_other _ e] at hc
      exact h.all q hq hc
  · rw [List.length_set] at hq
    by_cases e : i = q
    · subst e
      rw [gt_set_same _ hi]
      simp only
      omega
    · rw [gt_set_other _ e]
      exact h.pos q hq
  · have a := usd_set L i ⟨(gt L i).st, (gt L i).ct + k, if (gt L i).ct + k = 0 then ⟨#[]⟩ else (gt L i).tx⟩ hi
    simp only at a
    rw [if_pos (show 0 < (gt L i).ct by omega), if_pos hk] at a
    have := h.cnt
    rw [List.length_set]
    omega
set_option maxRecDepth 100000 in
/-- One is free. -/
theorem Inv.free {L : List Slt} {m : Nat} {d d1 d' : Nat → Nat} (h : Inv L m d) {i : Nat} (hi : i < L.length) (h0 : (gt L i).ct ≠ 0) (k : Int) (hk : (gt L i).ct + k = 0) (e1 : ∀ q, q < m → d1 q = d q) (e2 : d1 m = i) (hp : Hp (m + 1) d') (pm : Pm (m + 1) d1 d') : Inv (cntL L i k) (m + 1) d' := by
  have h1 := h.pos i hi
  have ne : ∀ q, q < m → i ≠ d q := fun q hq => by rintro rfl; exact h0 (h.lt q hq).2
  have at1 : ∀ q, q < m + 1 → d1 q < L.length ∧ (gt (cntL L i k) (d1 q)).ct = 0 := by
    intro q hq
    unfold cntL
    by_cases hqm : q = m
    · subst hqm
      rw [e2, gt_set_same _ hi]
      exact ⟨hi, hk⟩
    · rw [e1 q (by omega), gt_set_other _ (ne q (by omega))]
      exact h.lt q (by omega)
  refine ⟨hp, pm.inj (fun q l hq hl e => ?_), fun q hq => ?_, fun q hq hc => ?_, fun q hq => ?_, ?_⟩
  · by_cases hqm : q = m <;> by_cases hlm : l = m
    · omega
    · subst hqm
      rw [e2, e1 l (by omega)] at e
      exact absurd e (ne l (by omega))
    · subst hlm
      rw [e2, e1 q (by omega)] at e
      exact absurd e.symm (ne q (by omega))
    · rw [e1 q (by omega), e1 l (by omega)] at e
      exact h.inj q l (by omega) (by omega) e
  · obtain ⟨l, hl, e⟩ := pm.fro q hq
    rw [e, cntL_len]
    exact at1 l hl
  · rw [cntL_len] at hq
    have : ∃ l, l < m + 1 ∧ d1 l = q := by
      by_cases e : i = q
      · exact ⟨m, by omega, by rw [e2]; exact e⟩
      · unfold cntL at hc
        rw [gt_set_other _ e] at hc
        obtain ⟨l, hl, e3⟩ := h.all q hq hc
        exact ⟨l, by omega, by rw [e1 l hl]; exact e3⟩
    obtain ⟨l, hl, e⟩ := this
    obtain ⟨l', hl', e'⟩ := pm.to l hl
    exact ⟨l', hl', by rw [← e']; exact e⟩
  · rw [cntL_len] at hq
    unfold cntL
    by_cases e : i = q
    · subst e
      rw [gt_set_same _ hi]
      simp only
      omega
    · rw [gt_set_other _ e]
      exact h.pos q hq
  · have a := usd_set L i ⟨(gt L i).st, (gt L i).ct + k, if (gt L i).ct + k = 0 then ⟨#[]⟩ else (gt L i).tx⟩ hi
    simp only at a
    rw [if_pos (show 0 < (gt L i).ct by omega), if_neg (show ¬ 0 < (gt L i).ct + k by omega)] at a
    have := h.cnt
    rw [cntL_len]
    unfold cntL
    omega
end St
end Go.Proofs.Ytacanobhfebnaaa
