/-
  THE LAW StoreScript: acts that came in; what stands while it goes on.
-/
import Derived.Test.YtacanobhfebnaaaStN
import Derived.OpenShut
import Derived.ProofKit
import Derived.Lib.SmallJoins
namespace Go.Proofs.Ytacanobhfebnaaa
open Go.RowKit
open St

/-- An act. -/
structure Act4 where
  k : Int
  sl : Int
  sp : Int
  tx : ByteArray
def Act4.zero : Act4 := ⟨0, 0, 0, ⟨#[]⟩⟩
instance : Inhabited Act4 := ⟨Act4.zero⟩
def Act4.cells (a : Act4) : List Value := [.int .i64 a.k, .int .i64 a.sl, .int .i64 a.sp, .string a.tx]
def ag (l : List Act4) (i : Nat) : Act4 := l.getD i Act4.zero
/-- Acts that came in. -/
structure Acs (w : World) (B : Option Addr) (m c : Nat) (l : List Act4) : Prop where
  len : l.length = m
  mc : m ≤ c
  cm : c ≤ maxLen
  sz : ∀ i, i < m → (ag l i).tx.size ≤ maxLen
  cl : 0 < m → ∃ b o, B = some ⟨b, o, none⟩ ∧ b < w.heap.size ∧ ∀ i, i < m → ∀ j, j < 4 → w.cell? ⟨b, o + i * 4 + j, none⟩ = (ag l i).cells[j]?
set_option maxRecDepth 100000 in
theorem Acs.at {w : World} {b o : Nat} {m c : Nat} {l : List Act4} (h : Acs w (some ⟨b, o, none⟩) m c l) {i : Nat} (hi : i < m) :
    w.cell? ⟨b, o + i * 4, none⟩ = some (.int .i64 (ag l i).k) ∧ w.cell? ⟨b, o + i * 4 + 1, none⟩ = some (.int .i64 (ag l i).sl) ∧ w.cell? ⟨b, o + i * 4 + 2, none⟩ = some (.int .i64 (ag l i).sp) ∧ w.cell? ⟨b, o + i * 4 + 3, none⟩ = some (.string (ag l i).tx) := by
  obtain ⟨b', o', e, _, hc⟩ := h.cl (by omega)
  cases e
  exact ⟨hc i hi 0 (by omega), hc i hi 1 (by omega), hc i hi 2 (by omega), hc i hi 3 (by omega)⟩
set_option maxRecDepth 100000 in
theorem Acs.some {w : World} {B : Option Addr} {m c : Nat} {l : List Act4} (h : Acs w B m c l) (hm : 0 < m) : ∃ b o, B = Option.some ⟨b, o, none⟩ ∧ b < w.heap.size := by
  obtain ⟨b, o, e, hb, _⟩ := h.cl hm
  exact ⟨b, o, e, hb⟩
set_option maxRecDepth 100000 in
theorem Acs.below {w w' : World} {B : Option Addr} {m c : Nat} {l : List Act4} (h : Acs w B m c l) (hb : Below w.heap.size w w') : Acs w' B m c l := by
  refine ⟨h.len, h.mc, h.cm, h.sz, fun hm => ?_⟩
  obtain ⟨b, o, e, hlt, hc⟩ := h.cl hm
  exact ⟨b, o, e, Nat.lt_of_lt_of_le hlt hb.size, fun i hi j hj => (hb.cell (p := ⟨b, o + i * 4 + j, none⟩) hlt).trans (hc i hi j hj)⟩

set_option maxRecDepth 100000 in
theorem add4 (b o : Nat) (j : Nat) : (⟨b, o, none⟩ : Addr).add j = ⟨b, o + j, none⟩ := by unfold Addr.add; split <;> simp_all
set_option maxRecDepth 100000 in
theorem cells_act : Try.prog.cellsOf 32 = 4 := by kernel_rfl
set_option maxRecDepth 100000 in
theorem cells_i1 : Try.prog.cellsOf 3 = 1 := by kernel_rfl
set_option maxRecDepth 100000 in
theorem cells_s1 : Try.prog.cellsOf 9 = 1 := by kernel_rfl
set_option maxRecDepth 100000 in
theorem list4 {α : Type} {cs : List α} (h : cs.length = 4) : ∃ c0 c1 c2 c3, cs = [c0, c1, c2, c3] := by
  match cs, h with
  | [c0, c1, c2, c3], _ => exact ⟨c0, c1, c2, c3, rfl⟩

set_option maxRecDepth 100000 in
theorem open_act {H : Type} {enc : TypeId × Value → H} {W : World} (fuel : Nat) (cs : List Value) (x : DataW H × List MemPlace)
    (h : DataW.trod enc Try.prog W 0 (fun _ => true) true fuel 32 cs = some x) : ∃ a : Act4, cs = a.cells ∧ a.tx.size ≤ maxLen := by
  obtain ⟨xs, n, hfu, _, hcl, hxl, hf⟩ := DataW.trod_struct Try.underlying32 h
  rw [cells_act] at hcl
  obtain ⟨c0, c1, c2, c3, rfl⟩ := list4 hcl
  have get : ∀ i, i < 4 → ∃ y, xs[i]? = some y := fun i hi => ⟨_, List.getElem?_eq_getElem (by rw [hxl]; exact hi)⟩
  have f0 : DataW.trod enc Try.prog W 0 (fun _ => true) true n 3 [c0] = xs[0]? := by simpa [cells_i1] using hf 0 _ rfl
  have f1 : DataW.trod enc Try.prog W 0 (fun _ => true) true n 3 [c1] = xs[1]? := by simpa [cells_i1] using hf 1 _ rfl
  have f2 : DataW.trod enc Try.prog W 0 (fun _ => true) true n 3 [c2] = xs[2]? := by simpa [cells_i1] using hf 2 _ rfl
  have f3 : DataW.trod enc Try.prog W 0 (fun _ => true) true n 9 [c3] = xs[3]? := by simpa [cells_s1] using hf 3 _ rfl
  obtain ⟨y0, e0⟩ := get 0 (by omega)
  obtain ⟨y1, e1⟩ := get 1 (by omega)
  obtain ⟨y2, e2⟩ := get 2 (by omega)
  obtain ⟨y3, e3⟩ := get 3 (by omega)
  rw [e0] at f0; rw [e1] at f1; rw [e2] at f2; rw [e3] at f3
  obtain ⟨k, q0, _, _⟩ := DataW.trod_int Try.underlying3 f0
  obtain ⟨sl, q1, _, _⟩ := DataW.trod_int Try.underlying3 f1
  obtain ⟨sp, q2, _, _⟩ := DataW.trod_int Try.underlying3 f2
  obtain ⟨s, q3, _, ws⟩ := DataW.trod_string Try.underlying9 f3
  simp only [List.cons.injEq, and_true] at q0 q1 q2 q3
  subst q0 q1 q2 q3
  exact ⟨⟨k, sl, sp, s⟩, rfl, ws⟩
set_option maxRecDepth 100000 in
set_option maxRecDepth 100000 in
theorem open_acts {H : Type} {enc : TypeId × Value → H} {W : World} {v : Value} {d : DataW H} {p : List MemPlace}
    (hv : ∃ a n c, v = .slice a n c) (h : DataW.Trod enc Try.prog W 0 (fun _ => true) true 22 v d p) :
    ∃ (B : Option Addr) (m c : Nat) (l : List Act4), v = .slice B m c ∧ Acs W B m c l := by
  obtain ⟨a, n, c, rfl⟩ := hv
  obtain ⟨fuel, hf⟩ := h
  have hf' : DataW.trod enc Try.prog W 0 (fun _ => true) true fuel 22 [.slice a n c] = some (d, p) := by simpa [Value.cells] using hf
  rcases DataW.trod_slice Try.underlying22 hf' with ⟨h0, _⟩ | ⟨a, len, cap, elems, rest, n', hfu, hcs, _, hb, hl, hm, hlen, hel, _, _⟩
  · simp only [List.cons.injEq, and_true] at h0
    cases h0
    exact ⟨none, 0, 0, [], rfl, rfl, Nat.le_refl _, Nat.zero_le _, fun i hi => by omega, fun h => by omega⟩
  · simp only [List.cons.injEq, and_true] at hcs
    cases hcs
    rw [cells_act] at hel
    have each : ∀ i, i < n → ∃ y : Act4, (∀ j, j < 4 → W.cell? ((a.add (i * 4)).add j) = y.cells[j]?) ∧ y.tx.size ≤ maxLen := fun i hi => by
      have h1 := hel i hi
      rw [List.getElem?_eq_getElem (by omega)] at h1
      obtain ⟨cs', h2, h3⟩ := Option.bind_eq_some_iff.1 h1
      obtain ⟨y, rfl, hy⟩ := open_act n' cs' _ h3
      obtain ⟨_, _, h4⟩ := World.cells?_some h2
      exact ⟨y, h4, hy⟩
    obtain ⟨F, hF⟩ := Go.Deep.choose_lt (α := Act4) each
    have hag : ∀ i, i < n → ag ((List.range n).map F) i = F i := fun i hi => by simp [ag, hi]
    refine ⟨some a, n, c, (List.range n).map F, rfl, by simp, hl, hm, fun i hi => by rw [hag i hi]; exact (hF i hi).2, fun hn => ?_⟩
    have h0 := (hF 0 hn).1 0 (by omega)
    have h0' : W.cell? ((a.add (0 * 4)).add 0) = some (.int .i64 (F 0).k) := h0
    have hspot : a.spot = none := by
      have := World.cell?_spot h0'
      simpa [Addr.add] using this
    obtain ⟨b, o, sp⟩ := a
    simp only at hspot
    subst hspot
    refine ⟨b, o, rfl, ?_, fun i hi j hj => ?_⟩
    · have := World.block_lt_of_cell? W _ h0'
      rw [add4, add4] at this
      exact this
    · have := (hF i hi).1 j hj
      rw [add4, add4] at this
      rw [hag i hi]
      exact this

set_option maxRecDepth 100000 in
set_option maxRecDepth 100000 in
set_option maxHeartbeats 2000000 in
theorem great_any {w : World} {B : Option Addr} {m c : Nat} {l : List Act4} (h : Acs w B m c l) :
    Calls Try.prog 7 #[.slice B m c, .int .i64 100] w fun r w' => (∃ g, r = .returned (.bool g) ∧ (g = false → m ≤ 100 ∧ ∀ i, i < m → (ag l i).tx.size ≤ 500)) ∧ w = w' := by
  have hcm : c ≤ 9223372036854775807 := h.cm
  have hmc := h.mc
  have hsz : ∀ i, i < m → (ag l i).tx.size ≤ 9223372036854775807 := h.sz
  by_cases hm : m ≤ 100
  · have hd0 : decide ((m : Int) ≤ 100) = true := decide_eq_true (by omega)
    have hd9 : decide ((100 : Int) < (m : Int)) = false := decide_eq_false (by omega)
    go_enter Try.func7, Try.ntmps7
    go_wp2_with fail
    go_loopw [5] (fun x w' => ∃ i : Nat, i ≤ m ∧ x = .int .i64 (i : Int) ∧ Hid (∀ j, j < i → (ag l j).tx.size ≤ 500) ∧ w = w') (fun x _ => m - (intOf x).toNat)
    case atStart => exact ⟨0, Nat.zero_le _, rfl, Lib.hid (fun j hj => by omega), rfl⟩
    case round =>
      obtain ⟨i, hi, rfl, hall, rfl⟩ := hrel
      by_cases him : i < m
      · obtain ⟨b, o, rfl, _⟩ := h.some (by omega)
        obtain ⟨y0, y1, y2, y3⟩ := h.at him
        have hz := hsz i him
        have hd1 : decide ((i : Int) < (m : Int)) = true := decide_eq_true (by omega)
        clear h hsz
        by_cases hg : 500 < (ag l i).tx.size
        · have hd2 : decide ((500 : Int) < ((ag l i).tx.size : Int)) = true := decide_eq_true (by omega)
          go_wp2
          go_ret
          exact ⟨⟨true, rfl, fun h => by cases h⟩, rfl⟩
        · have hd2 : decide ((500 : Int) < ((ag l i).tx.size : Int)) = false := decide_eq_false (by omega)
          have hall2 : Hid (∀ j, j < i + 1 → (ag l j).tx.size ≤ 500) := Lib.hid (fun j hj => by
            by_cases e : j = i
            · subst e; omega
            · exact hall.out j (by omega))
          go_wp2_with fail
          exact ⟨⟨i + 1, by omega, rfl, hall2, trivial⟩, by simp [intOf]; omega⟩
      · have e : i = m := by omega
        subst e
        have hd1 : decide ((i : Int) < (i : Int)) = false := decide_eq_false (by omega)
        clear h hsz
        go_wp2
        go_ret
        exact ⟨⟨_, rfl, fun _ => ⟨hm, hall.out⟩⟩, rfl⟩
  · have hd0 : decide ((m : Int) ≤ 100) = false := decide_eq_false (by omega)
    have hd1 : decide ((0 : Int) < (m : Int)) = true := decide_eq_true (by omega)
    have hd9 : decide ((100 : Int) < (m : Int)) = true := decide_eq_true (by omega)
    clear h hsz
    go_enter Try.func7, Try.ntmps7
    go_wp2_with fail
    go_loopw [5] (fun x w' => x = .int .i64 0 ∧ w = w') (fun _ _ => 0)
    case atStart => exact ⟨rfl, rfl⟩
    case round =>
      obtain ⟨rfl, rfl⟩ := hrel
      go_wp2
      go_ret
      exact ⟨⟨true, rfl, fun h => by cases h⟩, rfl⟩
end Go.Proofs.Ytacanobhfebnaaa
