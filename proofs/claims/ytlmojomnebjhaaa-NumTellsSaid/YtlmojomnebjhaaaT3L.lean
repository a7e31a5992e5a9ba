/-
  WHAT NumTells HAS BEHIND ITS THIRD STATEMENT, WHENEVER ITS VARIABLES WERE MADE.
-/
import Derived.Test.YtlmojomnebjhaaaRaw
namespace Go.Proofs.Ytlmojomnebjhaaa
open Go.RowKit

theorem typ_below {w w' : World} {g : Nat} (h : ∃ cs f, w.heap[g]? = some (.cells cs 40 f)) (hb : Below w.heap.size w w') : ∃ cs f, w'.heap[g]? = some (.cells cs 40 f) := by
  obtain ⟨cs, f, h⟩ := h
  exact ⟨cs, f, (hb.block g (Array.getElem?_eq_some_iff.1 h).1).trans h⟩

/-- The two rows that were lent, and that they are rows of limbs. -/
structure L2 (gx n gy m : Nat) (la lb : List Nat) (w : World) : Prop where
  lx : Lent w gx n la
  ly : Lent w gy m lb
  tx : ∃ cs f, w.heap[gx]? = some (.cells cs 40 f)
  ty : ∃ cs f, w.heap[gy]? = some (.cells cs 40 f)
section
variable {w0 w w' : World} {gx n gy m g : Nat} {la lb : List Nat} {x y : Value}
theorem L2.alloc (L : L2 gx n gy m la lb w) (o : Obj) : L2 gx n gy m la lb (w.alloc o) := by
  have hb := (Below.refl w.heap.size w).alloc (Nat.le_refl _) o
  exact ⟨L.lx.below hb, L.ly.below hb, typ_below L.tx hb, typ_below L.ty hb⟩
theorem typ_ne {b : Nat} (h : ∃ cs f, w.heap[b]? = some (.cells cs 40 f)) (hx : Box w g x y) : b ≠ g := by
  rintro rfl
  obtain ⟨cs, f, h⟩ := h
  unfold Box at hx
  rw [h] at hx
  injection hx with hx
  injection hx with _ ht
  exact absurd ht (by decide)
theorem L2.set (L : L2 gx n gy m la lb w) (hx : Box w g x y) (i : Nat) (u : Value) : L2 gx n gy m la lb (w.setCell ⟨g, i, none⟩ u) := by
  have h1 := Below.heap_setCell w ⟨g, i, none⟩ u gx (typ_ne L.tx hx)
  have h2 := Below.heap_setCell w ⟨g, i, none⟩ u gy (typ_ne L.ty hx)
  have hs : w.heap.size ≤ (w.setCell ⟨g, i, none⟩ u).heap.size := by simp [World.setCell]
  obtain ⟨cs, f, e1⟩ := L.tx
  obtain ⟨cs', f', e2⟩ := L.ty
  exact ⟨L.lx.keep hs h1, L.ly.keep hs h2, ⟨cs, f, h1.trans e1⟩, ⟨cs', f', h2.trans e2⟩⟩
theorem L2.tl (L : L2 gx n gy m la lb w) : Tl w0 gx n gy m la lb [] w := ⟨L.lx, L.ly, fun r hr => by simp at hr, fun r hr => by simp at hr, List.Pairwise.nil⟩
theorem Env.swap {ts : List NumR} {a b : Nat × NumR} {bs : List (Nat × NumR)} (K : Env w0 ts (a :: b :: bs) w) : Env w0 ts (b :: a :: bs) w :=
  ⟨K.bl, K.nt, K.sp, fun x hx => K.bx x (by simp only [List.mem_cons] at hx ⊢; rcases hx with h | h | h; exact .inr (.inl h); exact .inl h; exact .inr (.inr h))⟩
end

/-- What NumTells has behind its third statement. -/
def Fin3 (w : World) (ra rb : NumR) (p q : Nat) (la lb : List Nat) (px py : Nat) (wx : World) : Prop :=
  ∃ (gx gy : Nat) (rx ry : NumR), (rx.s = ra.s ∧ ry.s = rb.s ∧ (rx.A = some ⟨gx, 0, none⟩ ∧ rx.n = ra.n ∧ rx.c = ra.n + 3) ∧ (ry.A = some ⟨gy, 0, none⟩ ∧ ry.n = rb.n ∧ ry.c = rb.n + 3)) ∧ Env w [] [(py, ry), (px, rx), (q, rb), (p, ra)] wx ∧ Tl w gx ra.n gy rb.n la lb [] wx
section
variable {w v : World} {ra rb : NumR} {p q gx gy X Y : Nat} {la lb : List Nat} {x y x' y' : Value}
theorem fin_goal {px py : Nat} {wx : World} (h : Fin3 w ra rb p q la lb px py wx) :
    ∃ (px' py' gx gy : Nat) (rx ry : NumR), Value.pointer (some ⟨px, 0, none⟩) = .pointer (some ⟨px', 0, none⟩) ∧ Value.pointer (some ⟨py, 0, none⟩) = .pointer (some ⟨py', 0, none⟩) ∧ (rx.s = ra.s ∧ ry.s = rb.s ∧ (rx.A = some ⟨gx, 0, none⟩ ∧ rx.n = ra.n ∧ rx.c = ra.n + 3) ∧ (ry.A = some ⟨gy, 0, none⟩ ∧ ry.n = rb.n ∧ ry.c = rb.n + 3)) ∧ Env w [] [(py', ry), (px', rx), (q, rb), (p, ra)] wx ∧ Tl w gx ra.n gy rb.n la lb [] wx := by
  obtain ⟨gx, gy, rx, ry, h1, h2, h3⟩ := h
  exact ⟨px, py, gx, gy, rx, ry, rfl, rfl, h1, h2, h3⟩
theorem fin_nn (K : Env w [] [(q, rb), (p, ra)] v) (L : L2 gx ra.n gy rb.n la lb v) : Fin3 w ra rb p q la lb v.heap.size (v.heap.size + 1) ((v.alloc (.cells #[.bool ra.s, .slice (some ⟨gx, 0, none⟩) ra.n (ra.n + 3)] 24)).alloc (.cells #[.bool rb.s, .slice (some ⟨gy, 0, none⟩) rb.n (rb.n + 3)] 24)) := by
  have h := (K.new ⟨ra.s, some ⟨gx, 0, none⟩, ra.n, ra.n + 3, 0⟩).new ⟨rb.s, some ⟨gy, 0, none⟩, rb.n, rb.n + 3, 0⟩
  simp only [World.size_alloc] at h
  exact ⟨gx, gy, ⟨ra.s, some ⟨gx, 0, none⟩, ra.n, ra.n + 3, 0⟩, ⟨rb.s, some ⟨gy, 0, none⟩, rb.n, rb.n + 3, 0⟩, ⟨rfl, rfl, ⟨rfl, rfl, rfl⟩, rfl, rfl, rfl⟩, h, ((L.alloc _).alloc _).tl⟩
theorem fin_nn' (K : Env w [] [(q, rb), (p, ra)] v) (L : L2 gx ra.n gy rb.n la lb v) : Fin3 w ra rb p q la lb (v.heap.size + 1) v.heap.size ((v.alloc (.cells #[.bool rb.s, .slice (some ⟨gy, 0, none⟩) rb.n (rb.n + 3)] 24)).alloc (.cells #[.bool ra.s, .slice (some ⟨gx, 0, none⟩) ra.n (ra.n + 3)] 24)) := by
  have h := ((K.new ⟨rb.s, some ⟨gy, 0, none⟩, rb.n, rb.n + 3, 0⟩).new ⟨ra.s, some ⟨gx, 0, none⟩, ra.n, ra.n + 3, 0⟩).swap
  simp only [World.size_alloc] at h
  exact ⟨gx, gy, ⟨ra.s, some ⟨gx, 0, none⟩, ra.n, ra.n + 3, 0⟩, ⟨rb.s, some ⟨gy, 0, none⟩, rb.n, rb.n + 3, 0⟩, ⟨rfl, rfl, ⟨rfl, rfl, rfl⟩, rfl, rfl, rfl⟩, h, ((L.alloc _).alloc _).tl⟩
theorem set_size (g i j : Nat) (a b : Value) : ((v.setCell ⟨g, i, none⟩ a).setCell ⟨g, j, none⟩ b).heap.size = v.heap.size := by simp [World.setCell]
theorem fin_sx (K : Env w [] [(q, rb), (p, ra)] v) (L : L2 gx ra.n gy rb.n la lb v) (hX : Box v X x y) (hg : w.heap.size ≤ X) (hn : ∀ x ∈ [(q, rb), (p, ra)], x.1 ≠ X) : Fin3 w ra rb p q la lb X v.heap.size (((v.setCell ⟨X, 0, none⟩ (.bool ra.s)).setCell ⟨X, 1, none⟩ (.slice (some ⟨gx, 0, none⟩) ra.n (ra.n + 3))).alloc (.cells #[.bool rb.s, .slice (some ⟨gy, 0, none⟩) rb.n (rb.n + 3)] 24)) := by
  have h := (K.store hX hg hn ⟨ra.s, some ⟨gx, 0, none⟩, ra.n, ra.n + 3, 0⟩).new ⟨rb.s, some ⟨gy, 0, none⟩, rb.n, rb.n + 3, 0⟩
  simp only [set_size] at h
  exact ⟨gx, gy, ⟨ra.s, some ⟨gx, 0, none⟩, ra.n, ra.n + 3, 0⟩, ⟨rb.s, some ⟨gy, 0, none⟩, rb.n, rb.n + 3, 0⟩, ⟨rfl, rfl, ⟨rfl, rfl, rfl⟩, rfl, rfl, rfl⟩, h, (((L.set hX 0 _).set (hX.set0 _) 1 _).alloc _).tl⟩
theorem fin_sy (K : Env w [] [(q, rb), (p, ra)] v) (L : L2 gx ra.n gy rb.n la lb v) (hY : Box v Y x y) (hg : w.heap.size ≤ Y) (hn : ∀ x ∈ [(q, rb), (p, ra)], x.1 ≠ Y) : Fin3 w ra rb p q la lb v.heap.size Y (((v.setCell ⟨Y, 0, none⟩ (.bool rb.s)).setCell ⟨Y, 1, none⟩ (.slice (some ⟨gy, 0, none⟩) rb.n (rb.n + 3))).alloc (.cells #[.bool ra.s, .slice (some ⟨gx, 0, none⟩) ra.n (ra.n + 3)] 24)) := by
  have h := ((K.store hY hg hn ⟨rb.s, some ⟨gy, 0, none⟩, rb.n, rb.n + 3, 0⟩).new ⟨ra.s, some ⟨gx, 0, none⟩, ra.n, ra.n + 3, 0⟩).swap
  simp only [set_size] at h
  exact ⟨gx, gy, ⟨ra.s, some ⟨gx, 0, none⟩, ra.n, ra.n + 3, 0⟩, ⟨rb.s, some ⟨gy, 0, none⟩, rb.n, rb.n + 3, 0⟩, ⟨rfl, rfl, ⟨rfl, rfl, rfl⟩, rfl, rfl, rfl⟩, h, (((L.set hY 0 _).set (hY.set0 _) 1 _).alloc _).tl⟩
theorem fin_ss (K : Env w [] [(q, rb), (p, ra)] v) (L : L2 gx ra.n gy rb.n la lb v) (hX : Box v X x y) (hg : w.heap.size ≤ X) (hn : ∀ x ∈ [(q, rb), (p, ra)], x.1 ≠ X) (hY : Box v Y x' y') (hg' : w.heap.size ≤ Y) (hn' : ∀ x ∈ [(q, rb), (p, ra)], x.1 ≠ Y) (hne : Y ≠ X) :
    Fin3 w ra rb p q la lb X Y ((((v.setCell ⟨X, 0, none⟩ (.bool ra.s)).setCell ⟨X, 1, none⟩ (.slice (some ⟨gx, 0, none⟩) ra.n (ra.n + 3))).setCell ⟨Y, 0, none⟩ (.bool rb.s)).setCell ⟨Y, 1, none⟩ (.slice (some ⟨gy, 0, none⟩) rb.n (rb.n + 3))) := by
  have hY2 := (hY.far (p := ⟨X, 0, none⟩) hne (.bool ra.s)).far (p := ⟨X, 1, none⟩) hne (.slice (some ⟨gx, 0, none⟩) ra.n (ra.n + 3))
  have h := (K.store hX hg hn ⟨ra.s, some ⟨gx, 0, none⟩, ra.n, ra.n + 3, 0⟩).store hY2 hg' (fun z hz => by
    rcases List.mem_cons.1 hz with rfl | hz
    · exact fun e => hne e.symm
    · exact hn' z hz) ⟨rb.s, some ⟨gy, 0, none⟩, rb.n, rb.n + 3, 0⟩
  exact ⟨gx, gy, ⟨ra.s, some ⟨gx, 0, none⟩, ra.n, ra.n + 3, 0⟩, ⟨rb.s, some ⟨gy, 0, none⟩, rb.n, rb.n + 3, 0⟩, ⟨rfl, rfl, ⟨rfl, rfl, rfl⟩, rfl, rfl, rfl⟩, h, ((((L.set hX 0 _).set (hX.set0 _) 1 _).set hY2 0 _).set (hY2.set0 _) 1 _).tl⟩
end

end Go.Proofs.Ytlmojomnebjhaaa
