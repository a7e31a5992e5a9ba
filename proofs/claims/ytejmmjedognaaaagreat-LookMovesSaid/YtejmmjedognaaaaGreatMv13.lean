/-
  NUMBERS AS RECORDS; WHAT A LAW HOLDS WHILE IT RUNS: variables that hold numbers, and numbers beside them.
  CONTRACTS OF THE LAWS' OWN FUNCTIONS ON INTEGERS (beehiveref1): May, at, size, fit, may.
  CONTRACTS OF THE LAWS' OWN FUNCTIONS ON INTEGERS (beehiveref1): may, plus, minus, Of.
-/
import Derived.Test.YtejmmjedognaaaaGreatMv12
import Derived.Deep.DeepCutAuto
namespace Go.Proofs.YtejmmjedognaaaaGreat
open Go.RowKit

/-- A number in memory: its sign, its slice, and what it comes to. -/
structure NumR where
  s : Bool
  A : Option Addr
  n : Nat
  c : Nat
  z : Int

/-- The record tells the truth, and the number has at most eight limbs. -/
def Nt (w : World) (r : NumR) : Prop := Nm w r.s r.A r.n r.c r.z ∧ r.z.natAbs < Lm.top
set_option maxRecDepth 100000 in
theorem Nt.below {w w' : World} {r : NumR} (h : Nt w r) (hb : Below w.heap.size w w') : Nt w' r := ⟨h.1.below hb, h.2⟩

/-- Its limbs lie in a row of limbs. -/
def Typ (w : World) (r : NumR) : Prop := ∀ b o, r.A = some ⟨b, o, none⟩ → 0 < r.n → ∃ cs f, w.heap[b]? = some (.cells cs 128 f)
/-- Its limbs came in, or lie in a row of limbs. -/
def Sep (w0 w : World) (r : NumR) : Prop := ∀ b o, r.A = some ⟨b, o, none⟩ → 0 < r.n → b < w0.heap.size ∨ ∃ cs f, w.heap[b]? = some (.cells cs 128 f)
set_option maxRecDepth 100000 in
theorem Sep.below {w0 w w' : World} {r : NumR} (h : Sep w0 w r) (hb : Below w.heap.size w w') : Sep w0 w' r := fun b o e hn => by
  rcases h b o e hn with h1 | ⟨cs, f, h1⟩
  · exact .inl h1
  · exact .inr ⟨cs, f, (hb.block b (Array.getElem?_eq_some_iff.1 h1).1).trans h1⟩
set_option maxRecDepth 100000 in
theorem Typ.sep {w0 w : World} {r : NumR} (h : Typ w r) : Sep w0 w r := fun b o e hn => .inr (h b o e hn)
set_option maxRecDepth 100000 in
theorem Nt.sep {w : World} {r : NumR} (h : Nt w r) : Sep w w r := fun b o e hn => by
  obtain ⟨b', o', e', hlt, _⟩ := h.1.1.1.2.2.2 hn
  rw [e] at e'
  injection e' with e'
  injection e' with e1
  exact .inl (by omega)
set_option maxRecDepth 100000 in
theorem sep_ne {w0 w : World} {r : NumR} {g b o : Nat} {x y : Value} (h : Sep w0 w r) (hx : Box w g x y) (hg : w0.heap.size ≤ g) (e : r.A = some ⟨b, o, none⟩) (hn : 0 < r.n) : b ≠ g := by
  rintro rfl
  rcases h b o e hn with h1 | ⟨cs, f, h1⟩
  · omega
  · unfold Box at hx
    rw [h1] at hx
    injection hx with hx
    injection hx with _ ht
    exact absurd ht (by decide)
set_option maxRecDepth 100000 in
theorem Nt.box {w0 w : World} {r : NumR} {g : Nat} {x y : Value} (h : Nt w r) (hs : Sep w0 w r) (hx : Box w g x y) (hg : w0.heap.size ≤ g) (i : Nat) (u : Value) : Nt (w.setCell ⟨g, i, none⟩ u) r := by
  refine ⟨⟨⟨⟨h.1.1.1.1, h.1.1.1.2.1, h.1.1.1.2.2.1, fun hn => ?_⟩, h.1.1.2⟩, h.1.2⟩, h.2⟩
  obtain ⟨b, o, e, hlt, hc⟩ := h.1.1.1.2.2.2 hn
  have hne := sep_ne hs hx hg e hn
  refine ⟨b, o, e, by simpa [World.setCell] using hlt, fun j hj => ?_⟩
  rw [World.cell?_of_block (w := w) (Below.heap_setCell w ⟨g, i, none⟩ u b hne)]
  exact hc j hj
set_option maxRecDepth 100000 in
theorem Sep.box {w0 w : World} {r : NumR} {g : Nat} {x y : Value} (hs : Sep w0 w r) (hx : Box w g x y) (hg : w0.heap.size ≤ g) (i : Nat) (u : Value) : Sep w0 (w.setCell ⟨g, i, none⟩ u) r := fun b o e hn => by
  have hne := sep_ne hs hx hg e hn
  rcases hs b o e hn with h1 | ⟨cs, f, h1⟩
  · exact .inl h1
  · exact .inr ⟨cs, f, (Below.heap_setCell w ⟨g, i, none⟩ u b hne).trans h1⟩

/-- What is kept: nothing that was there has changed; the numbers ts stand; the variables bs hold theirs. -/
structure Env (w0 : World) (ts : List NumR) (bs : List (Nat × NumR)) (w : World) : Prop where
  bl : Below w0.heap.size w0 w
  nt : ∀ r ∈ ts, Nt w r
  sp : ∀ r ∈ ts, Sep w0 w r
  bx : ∀ x ∈ bs, Box w x.1 (.bool x.2.s) (.slice x.2.A x.2.n x.2.c)
section
variable {w0 w w' : World} {ts : List NumR} {bs : List (Nat × NumR)} {r : NumR} {g : Nat}
set_option maxRecDepth 100000 in
theorem Env.below (K : Env w0 ts bs w) (hb : Below w.heap.size w w') : Env w0 ts bs w' :=
  ⟨K.bl.trans (hb.mono K.bl.size), fun r hr => (K.nt r hr).below hb, fun r hr => (K.sp r hr).below hb, fun x hx => (K.bx x hx).below' hb⟩
set_option maxRecDepth 100000 in
theorem Env.drew (K : Env w0 ts bs w) : Env w0 ts bs w.drew := K.below (Below.refl _ _).drew
set_option maxRecDepth 100000 in
theorem Env.alloc (K : Env w0 ts bs w) (o : Obj) : Env w0 ts bs (w.alloc o) := K.below ((Below.refl _ _).alloc (Nat.le_refl _) o)
set_option maxRecDepth 100000 in
theorem Env.push (K : Env w0 ts bs w) (h : Nt w r) (ht : Typ w r) : Env w0 (r :: ts) bs w := ⟨K.bl, fun x hx => by
  rcases List.mem_cons.1 hx with rfl | hx
  · exact h
  · exact K.nt x hx, fun x hx => by
  rcases List.mem_cons.1 hx with rfl | hx
  · exact ht.sep
  · exact K.sp x hx, K.bx⟩
set_option maxRecDepth 100000 in
theorem Env.new (K : Env w0 ts bs w) (r : NumR) : Env w0 ts ((w.heap.size, r) :: bs) (w.alloc (.cells #[.bool r.s, .slice r.A r.n r.c] 37)) := by
  have K' := K.alloc (.cells #[.bool r.s, .slice r.A r.n r.c] 37)
  refine ⟨K'.bl, K'.nt, K'.sp, fun x hx => ?_⟩
  rcases List.mem_cons.1 hx with rfl | hx
  · exact Box.new w _ _
  · exact K'.bx x hx
set_option maxRecDepth 100000 in
theorem Env.drop2 {r' : NumR} (K : Env w0 (r :: r' :: ts) bs w) : Env w0 (r :: ts) bs w :=
  ⟨K.bl, fun x hx => K.nt x (by rcases List.mem_cons.1 hx with rfl | h; exact List.mem_cons_self; exact List.mem_cons_of_mem _ (List.mem_cons_of_mem _ h)), fun x hx => K.sp x (by rcases List.mem_cons.1 hx with rfl | h; exact List.mem_cons_self; exact List.mem_cons_of_mem _ (List.mem_cons_of_mem _ h)), K.bx⟩
set_option maxRecDepth 100000 in
theorem Env.lt (K : Env w0 ts bs w) (h : (g, r) ∈ bs) : g < w.heap.size := (K.bx _ h).lt
set_option maxRecDepth 100000 in
theorem Env.c0 (K : Env w0 ts bs w) (h : (g, r) ∈ bs) : w.cell? ⟨g, 0, none⟩ = some (.bool r.s) := (K.bx _ h).c0
set_option maxRecDepth 100000 in
theorem Env.c1 (K : Env w0 ts bs w) (h : (g, r) ∈ bs) : w.cell? ⟨g, 1, none⟩ = some (.slice r.A r.n r.c) := (K.bx _ h).c1
set_option maxRecDepth 100000 in
theorem Env.store0 {x y : Value} (K : Env w0 ts bs w) (hx : Box w g x y) (hg : w0.heap.size ≤ g) (hne : ∀ x ∈ bs, x.1 ≠ g) (i : Nat) (u : Value) : Env w0 ts bs (w.setCell ⟨g, i, none⟩ u) :=
  ⟨K.bl.setCell (p := ⟨g, i, none⟩) hg u, fun r hr => (K.nt r hr).box (K.sp r hr) hx hg i u, fun r hr => (K.sp r hr).box hx hg i u, fun z hz => (K.bx z hz).far (p := ⟨g, i, none⟩) (hne z hz) u⟩
set_option maxRecDepth 100000 in
/-- A number is stored into a variable that has just been made. -/
theorem Env.store {x y : Value} (K : Env w0 ts bs w) (hx : Box w g x y) (hg : w0.heap.size ≤ g) (hne : ∀ x ∈ bs, x.1 ≠ g) (r : NumR) :
    Env w0 ts ((g, r) :: bs) ((w.setCell ⟨g, 0, none⟩ (.bool r.s)).setCell ⟨g, 1, none⟩ (.slice r.A r.n r.c)) := by
  have K' := (K.store0 hx hg hne 0 (.bool r.s)).store0 (hx.set0 _) hg hne 1 (.slice r.A r.n r.c)
  refine ⟨K'.bl, K'.nt, K'.sp, fun z hz => ?_⟩
  rcases List.mem_cons.1 hz with rfl | hz
  · exact (hx.set0 _).set1 _
  · exact K'.bx z hz
end

set_option maxRecDepth 100000 in
theorem clip_top (z : Int) : (clip z).natAbs < Lm.top := by
  unfold clip
  by_cases h : z.natAbs < Lm.top
  · rw [if_pos h]; exact h
  · rw [if_neg h]; decide

/-- What a call leaves that answers a number; a number and a bool. -/
def RetNum (w : World) (z : Int) (e : Ending) (w' : World) : Prop :=
  ∃ r : NumR, e = .returned (.agg #[.bool r.s, .slice r.A r.n r.c]) ∧ r.z = z ∧ Nt w' r ∧ Typ w' r ∧ Below w.heap.size w w'
def RetNumB (w : World) (z : Int) (ok : Bool) (e : Ending) (w' : World) : Prop :=
  ∃ r : NumR, e = .returned (.tuple #[.agg #[.bool r.s, .slice r.A r.n r.c], .bool ok]) ∧ r.z = z ∧ Nt w' r ∧ Typ w' r ∧ Below w.heap.size w w'
set_option maxRecDepth 100000 in
theorem own_typ {w : World} {base n c : Nat} {s : Bool} {A : Option Addr} {l : List Nat} {z : Int} (ho : Own w base A n c l) : Typ w ⟨s, A, n, c, z⟩ := fun b o e hn => by
  simp only at e hn
  rcases ho.2.2.2 with ⟨_, h0⟩ | ⟨g, cap, cur, hv, _, hg, _⟩
  · omega
  · injection hv with hA
    rw [e] at hA
    injection hA with hA
    injection hA with hA
    subst hA
    exact ⟨cur, _, hg⟩
set_option maxRecDepth 100000 in
theorem OnePost.ret {w w' : World} {z : Int} {e : Ending} (h : OnePost w z e w') (ht : z.natAbs < Lm.top) : RetNum w z e w' := by
  obtain ⟨_, rfl, ⟨s, A, n, c, rfl, hs, ho⟩, hb⟩ := h
  exact ⟨⟨s, A, n, c, z⟩, rfl, rfl, ⟨Nm.of_own hs ho, ht⟩, own_typ ho, hb⟩
set_option maxRecDepth 100000 in
theorem NumPost.ret {w w' : World} {z : Int} {ok : Bool} {e : Ending} (h : NumPost w z ok e w') (ht : z.natAbs < Lm.top) : RetNumB w z ok e w' := by
  obtain ⟨_, rfl, ⟨s, A, n, c, rfl, hs, ho⟩, hb⟩ := h
  exact ⟨⟨s, A, n, c, z⟩, rfl, rfl, ⟨Nm.of_own hs ho, ht⟩, own_typ ho, hb⟩

section
variable (w : World) (r r' : NumR) (h : Nt w r) (h' : Nt w r')
include h h'
set_option maxRecDepth 100000 in
theorem same_r : Calls Tryz.prog 34 #[.agg #[.bool r.s, .slice r.A r.n r.c], .agg #[.bool r'.s, .slice r'.A r'.n r'.c]] w fun e w' => e = .returned (.bool (decide (r.z = r'.z))) ∧ Below w.heap.size w w' :=
  same_z w _ _ _ _ _ _ _ _ _ _ h.1 h'.1
end
section
variable (w : World) (r : NumR) (h : Nt w r)
include h
set_option maxRecDepth 100000 in
theorem may_r : Calls Tryz.prog 160 #[.agg #[.bool r.s, .slice r.A r.n r.c]] w fun e w' => e = .returned (.bool true) ∧ Below w.heap.size w w' :=
  may_z w _ _ _ _ _ h.1 h.2
end
set_option maxRecDepth 100000 in
theorem Nt.len {w : World} {r : NumR} (h : Nt w r) : r.n ≤ 8 := by
  have h1 := (Lm.top_iff _).2 h.2
  rw [h.1.1.1.1] at h1
  exact h1
end Go.Proofs.YtejmmjedognaaaaGreat

namespace Go.Proofs.YtejmmjedognaaaaGreat
open Go.RowKit

set_option maxRecDepth 100000 in
set_option maxHeartbeats 400000 in
theorem refMay_any (w : World) (g : Bool) (A : Option Addr) (n c : Nat) (l : List Nat) (h : Lim w A n c l) (_hn : c ≤ maxLen) :
    Calls Tryz.prog 125 #[.agg #[.bool g, .slice A n c]] w fun e w' => e = .returned (.bool (mayB g l)) ∧ w' = w.alloc (.cells #[.bool g, .slice A n c] 37) := by
  unfold maxLen at _hn
  have hnc := h.2.1
  have hll := Lib.hid h.1
  by_cases h0 : n = 0
  · subst h0
    have fin : Hid (mayB g l = !g) := by unfold mayB; rw [if_pos hll.out]; rfl
    cases g
    all_goals (
      go_enter Tryz.func125, Tryz.ntmps125
      go_wp2
      go_ret
      rw [fin.out]
      exact ⟨rfl, rfl⟩)
  · have hne : (((n : Nat) : Int) == 0) = false := by rw [beq_eq_false_iff_ne]; omega
    obtain ⟨b, o, rfl, hlt, hcell⟩ := h.2.2.2 (by omega)
    have hg := hcell (n - 1) (by omega)
    clear hcell
    by_cases h8 : n ≤ 8
    · by_cases hx : Lm.lg l (n - 1) = 0
      · have fin := Lib.hid (show mayB g l = false by unfold mayB; rw [hll.out, if_neg h0]; simp [hx])
        rw [hx] at hg
        have hX := Lib.hid hx
        clear hx
        go_enter Tryz.func125, Tryz.ntmps125
        go_wp2
        go_ret
        rw [fin.out]
        exact ⟨rfl, rfl⟩
      · have fin := Lib.hid (show mayB g l = true by unfold mayB; rw [hll.out, if_neg h0]; simp [hx, h8])
        have hx' : (((Lm.lg l (n - 1) : Nat) : Int) != 0) = true := by rw [bne_iff_ne]; omega
        go_enter Tryz.func125, Tryz.ntmps125
        go_wp2
        go_ret
        rw [fin.out]
        exact ⟨rfl, rfl⟩
    · have fin := Lib.hid (show mayB g l = false by unfold mayB; rw [hll.out, if_neg h0]; simp [h8])
      go_enter Tryz.func125, Tryz.ntmps125
      go_wp2
      go_ret
      rw [fin.out]
      exact ⟨rfl, rfl⟩

set_option maxRecDepth 100000 in
theorem refMay_b (w : World) (g : Bool) (A : Option Addr) (n c : Nat) (l : List Nat) (h : Raw w A n c l) :
    Calls Tryz.prog 125 #[.agg #[.bool g, .slice A n c]] w fun e w' => e = .returned (.bool (mayB g l)) ∧ Below w.heap.size w w' :=
  (refMay_any w g A n c l h.1 h.2).mono fun _ _ ⟨he, hw⟩ => ⟨he, by rw [hw]; exact (Below.refl _ _).alloc (Nat.le_refl _) _⟩

end Go.Proofs.YtejmmjedognaaaaGreat

namespace Go.Proofs.YtejmmjedognaaaaGreat
open Go.RowKit

set_option maxRecDepth 100000 in
theorem val_snoc {t : List Nat} {j : Nat} (hl : t.length = j) (x : Nat) : Lm.val (t ++ [x]) = Lm.val t + 4294967296 ^ j * x := by
  rw [Lm.val_append, hl]; simp [Lm.val]
set_option maxRecDepth 100000 in
theorem add_snoc {t l k : List Nat} {j c : Nat} (hl : t.length = j) (h : Lm.val t + 4294967296 ^ j * c = Lm.val (l.take j) + Lm.val (k.take j)) :
    Lm.val (t ++ [(Lm.lg l j + Lm.lg k j + c) % 4294967296]) + 4294967296 ^ (j + 1) * ((Lm.lg l j + Lm.lg k j + c) / 4294967296) = Lm.val (l.take (j + 1)) + Lm.val (k.take (j + 1)) := by
  rw [val_snoc hl, Lm.val_take_succ l, Lm.val_take_succ k, Nat.pow_succ, Nat.mul_assoc]
  have e : (Lm.lg l j + Lm.lg k j + c) % 4294967296 + 4294967296 * ((Lm.lg l j + Lm.lg k j + c) / 4294967296) = Lm.lg l j + Lm.lg k j + c := Nat.mod_add_div _ _
  have e2 : 4294967296 ^ j * ((Lm.lg l j + Lm.lg k j + c) % 4294967296) + 4294967296 ^ j * (4294967296 * ((Lm.lg l j + Lm.lg k j + c) / 4294967296)) = 4294967296 ^ j * Lm.lg l j + 4294967296 ^ j * Lm.lg k j + 4294967296 ^ j * c := by
    rw [← Nat.mul_add, e, Nat.mul_add, Nat.mul_add]
  generalize 4294967296 ^ j * ((Lm.lg l j + Lm.lg k j + c) % 4294967296) = u at *
  generalize 4294967296 ^ j * (4294967296 * ((Lm.lg l j + Lm.lg k j + c) / 4294967296)) = v at *
  omega
set_option maxRecDepth 100000 in
theorem sub_snoc {t l k : List Nat} {j b x b' : Nat} (hl : t.length = j) (h : Lm.val (l.take j) + 4294967296 ^ j * b = Lm.val t + Lm.val (k.take j)) (hx : Lm.lg l j + 4294967296 * b' = x + Lm.lg k j + b) :
    Lm.val (l.take (j + 1)) + 4294967296 ^ (j + 1) * b' = Lm.val (t ++ [x]) + Lm.val (k.take (j + 1)) := by
  rw [val_snoc hl, Lm.val_take_succ l, Lm.val_take_succ k, Nat.pow_succ, Nat.mul_assoc]
  have e2 : 4294967296 ^ j * Lm.lg l j + 4294967296 ^ j * (4294967296 * b') = 4294967296 ^ j * x + 4294967296 ^ j * Lm.lg k j + 4294967296 ^ j * b := by
    rw [← Nat.mul_add, hx, Nat.mul_add, Nat.mul_add]
  generalize 4294967296 ^ j * (4294967296 * b') = v at *
  omega
set_option maxRecDepth 100000 in
theorem add_whole {t l k : List Nat} {N x : Nat} (hs : Lm.Small l) (hs' : Lm.Small k) (hl : l.length ≤ N) (hk : k.length ≤ N) (h : Lm.val t + 4294967296 ^ (N + 1) * x = Lm.val (l.take (N + 1)) + Lm.val (k.take (N + 1))) : Lm.val t = Lm.val l + Lm.val k := by
  rw [List.take_of_length_le (by omega), List.take_of_length_le (by omega)] at h
  have h1 : Lm.val l < 4294967296 ^ N := Nat.lt_of_lt_of_le (Lm.val_lt hs) (Nat.pow_le_pow_right (by decide) hl)
  have h2 : Lm.val k < 4294967296 ^ N := Nat.lt_of_lt_of_le (Lm.val_lt hs') (Nat.pow_le_pow_right (by decide) hk)
  have h3 : 4294967296 ^ (N + 1) = 4294967296 ^ N * 4294967296 := Nat.pow_succ ..
  generalize 4294967296 ^ (N + 1) = Q at *
  generalize 4294967296 ^ N = P at *
  generalize Lm.val l = u at *
  generalize Lm.val k = v at *
  generalize Lm.val t = y at *
  rcases Nat.eq_zero_or_pos x with h0 | h0
  · subst h0
    rw [Nat.mul_zero] at h
    omega
  · have h4 : Q * 1 ≤ Q * x := Nat.mul_le_mul_left _ h0
    generalize Q * x = q at *
    omega
set_option maxRecDepth 100000 in
theorem sub_whole {t l k : List Nat} {b : Nat} (hs : Lm.Small t) (ht : t.length = l.length) (hk : k.length ≤ l.length) (hle : Lm.val k ≤ Lm.val l)
    (h : Lm.val (l.take l.length) + 4294967296 ^ l.length * b = Lm.val t + Lm.val (k.take l.length)) : Lm.val t = Lm.val l - Lm.val k := by
  refine Lm.sub_end hs ht hk hle (b := b) ?_
  rw [List.take_of_length_le (l := t) (by omega)]
  exact h
set_option maxRecDepth 100000 in
theorem sub_wrap2 (a b x : Nat) (ha : a ≤ 4294967295) (hb : b ≤ 4294967295) (hx : x ≤ 1) :
    ∃ y b' : Nat, IntKind.u64.wrap (IntKind.u64.wrap ((a : Int) - b) - x) % 4294967296 = (y : Int) ∧ IntKind.u64.wrap (IntKind.u64.wrap ((a : Int) - b) - x) / 9223372036854775808 = (b' : Int) ∧ b' ≤ 1 ∧ y < 4294967296 ∧ a + 4294967296 * b' = y + b + x := by
  rw [IntKind.wrap_u64, IntKind.wrap_u64]
  refine ⟨((((a : Int) - b) % 18446744073709551616 - x) % 18446744073709551616 % 4294967296).toNat, ((((a : Int) - b) % 18446744073709551616 - x) % 18446744073709551616 / 9223372036854775808).toNat, ?_, ?_, ?_, ?_, ?_⟩ <;> omega
set_option maxRecDepth 100000 in
theorem arr_one (x : Nat) : (#[Value.int .u32 (x : Int)] : Array Value) = arr [x] := rfl
set_option maxRecDepth 100000 in
theorem one_small {x : Nat} (h : x < 4294967296) : Lm.Small [x] := by intro y hy; simp at hy; omega

set_option maxRecDepth 100000 in
/-- append(row, limb). -/
theorem append_one (w : World) (base : Nat) (A0 : Option Addr) (n0 c0 : Nat) (l0 : List Nat) (hown : Own w base A0 n0 c0 l0) (x : Nat) (hx : x < 4294967296) (hn : n0 + 1 ≤ 100000) (hbase : base ≤ w.heap.size) (ty : TypeId) :
    ∃ A' c' w', (Builtin.append_ #[35, 35] ty #[.slice A0 n0 c0, .slice (some ⟨w.heap.size, 0, none⟩) 1 1]).run Tryz.prog (w.alloc (.cells #[.int .u32 (x : Int)] 128)) = .ok (.slice A' (n0 + 1) c') w' ∧ Own w' base A' (n0 + 1) c' (l0 ++ [x]) ∧ Below base w w' := by
  have hA := (Below.refl w.heap.size w).alloc (Nat.le_refl _) (.cells #[.int .u32 (x : Int)] 128)
  obtain ⟨A', c', w', h1, h2, h3⟩ := append_lim (w.alloc (.cells #[.int .u32 (x : Int)] 128)) base A0 n0 c0 l0 (hown.below hA) (some ⟨w.heap.size, 0, none⟩) 1 1 [x] (Lim.new w [x] (one_small hx)) hn (Nat.le_trans hbase hA.size) ty
  exact ⟨A', c', w', h1, h2, (hA.mono hbase).trans h3⟩

end Go.Proofs.YtejmmjedognaaaaGreat
