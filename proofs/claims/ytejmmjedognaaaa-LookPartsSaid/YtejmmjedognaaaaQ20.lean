/-
  BYTES THAT ARE PUT BEHIND A ROW; PACKAGE wire: laidNumber; the reference's num.
  THE REFERENCE's LOOK: packed.
  THE REFERENCE's LOOK: bytes.
-/
import Derived.Test.YtejmmjedognaaaaQ19
import Derived.Test.YtejmmjedognaaaaQ5
import Derived.Laws.BytesArg
namespace Go.Proofs.Ytejmmjedognaaaa
open Go.RowKit

/-- What putting bytes behind a row changes: that row, and new blocks. -/
structure Gr (w w' : World) (A A' : Option Addr) : Prop where
  g : w.grownBy w' (A.map (·.block))
  loc : A'.map (·.block) = A.map (·.block) ∨ ∃ k, A'.map (·.block) = some k ∧ w.heap.size ≤ k
/-- The row does not lie in that block. -/
def Av (A : Option Addr) (b : Nat) : Prop := A.map (·.block) ≠ some b
set_option maxRecDepth 100000 in
theorem own_map (A : Option Addr) (n c : Nat) : (Value.slice A n c).ownBlock = A.map (·.block) := by cases A <;> rfl
set_option maxRecDepth 100000 in
theorem Gr.refl (w : World) (A : Option Addr) : Gr w w A A := ⟨World.grownBy.refl _ _, .inl rfl⟩
set_option maxRecDepth 100000 in
theorem Gr.alloc {w w' : World} {A A' : Option Addr} (h : Gr w w' A A') (o : Obj) : Gr w (w'.alloc o) A A' := ⟨grown_tr h.g (World.grownBy_alloc w' o _), h.loc⟩
set_option maxRecDepth 100000 in
theorem Gr.trans {a b c : World} {A A' A'' : Option Addr} (h : Gr a b A A') (k : Gr b c A' A'') : Gr a c A A'' := by
  refine ⟨⟨k.g.os.trans h.g.os, k.g.tape.trans h.g.tape, k.g.output.trans h.g.output, Nat.le_trans h.g.size k.g.size, fun i hi hne => ?_⟩, ?_⟩
  · refine (k.g.block i (Nat.lt_of_lt_of_le hi h.g.size) ?_).trans (h.g.block i hi hne)
    rcases h.loc with e | ⟨j, e, hj⟩
    · rw [e]; exact hne
    · rw [e]; intro e'; cases e'; omega
  · rcases k.loc with e | ⟨j, e, hj⟩
    · rw [e]; exact h.loc
    · exact .inr ⟨j, e, Nat.le_trans h.g.size hj⟩
set_option maxRecDepth 100000 in
theorem Gr.box {w w' : World} {A A' : Option Addr} (h : Gr w w' A A') {b : Nat} (hb : b < w.heap.size) (ha : Av A b) : w'.heap[b]? = w.heap[b]? := h.g.block b hb (fun e => ha e.symm)
set_option maxRecDepth 100000 in
theorem Gr.av {w w' : World} {A A' : Option Addr} (h : Gr w w' A A') {b : Nat} (hb : b < w.heap.size) (ha : Av A b) : Av A' b := by
  intro e
  rcases h.loc with e' | ⟨j, e', hj⟩
  · rw [e'] at e; exact ha e
  · rw [e'] at e; cases e; omega
set_option maxRecDepth 100000 in
theorem Bo.av {w : World} {base n c : Nat} {A : Option Addr} {l : List Nat} (h : Bo w base A n c l) {b : Nat} (hb : w.heap.size ≤ b) : Av A b := by
  intro e
  have := (World.ownsRow.lt h.2.2 b (by rw [own_map]; exact e)).2
  omega
set_option maxRecDepth 100000 in
theorem Gr.below {w w' : World} {A A' : Option Addr} (h : Gr w w' A A') {base n c : Nat} {l : List Nat} (hB : Bo w base A n c l) (hb : base ≤ w.heap.size) : Below base w w' :=
  (Below.refl base w).grown h.g hb (fun k hk => (World.ownsRow.lt hB.2.2 k (by rw [own_map]; exact hk)).1)

/-- What a call leaves that puts bytes behind a row. -/
def LdP (w : World) (base : Nat) (A : Option Addr) (n : Nat) (l l' : List Nat) (e : Ending) (w' : World) : Prop :=
  ∃ A' c', e = .returned (.slice A' (n + l'.length) c') ∧ Bo w' base A' (n + l'.length) c' (l ++ l') ∧ Gr w w' A A'

set_option maxRecDepth 100000 in
/-- append(row, bytes...). -/
theorem Bo.app {w : World} {base : Nat} {A0 : Option Addr} {n0 c0 : Nat} {l0 : List Nat} (hown : Bo w base A0 n0 c0 l0) (A : Option Addr) (n c : Nat) (l : List Nat) (h : By w A n c l) (hn : n0 + n ≤ 10000000) (hbase : base ≤ w.heap.size) (ty : TypeId) :
    ∃ A' c' w', (Builtin.append_ #[120, 120] ty #[.slice A0 n0 c0, .slice A n c]).run Try.prog w = .ok (.slice A' (n0 + n) c') w' ∧ Bo w' base A' (n0 + n) c' (l0 ++ l) ∧ Gr w w' A0 A' := by
  obtain ⟨i, hi, hz, hs, hb⟩ := info_byte'
  cases A with
  | none =>
    have h0 : n = 0 := by
      rcases Nat.eq_zero_or_pos n with h0 | h0
      · exact h0
      · obtain ⟨b, o, e, _⟩ := h.2.2.2 h0
        cases e
    subst h0
    have hl : l = [] := List.eq_nil_of_length_eq_zero h.1
    subst hl
    refine ⟨A0, c0, w, ?_, by simpa using hown, Gr.refl _ _⟩
    rcases hown.2.2.2 with ⟨hv, h0⟩ | ⟨g, cap, cur, hv, _, _, hnc, _⟩
    · injection hv with hA _ hc
      subst hA hc h0
      simp [Builtin.append_, run_underlying und_bytes, sizeOf, typeInfo, hi, Builtin.lenOf, Builtin.firstCells]
    · injection hv with hA _ hc
      subst hA hc
      simp [Builtin.append_, run_underlying und_bytes, sizeOf, typeInfo, hi, Builtin.lenOf, Builtin.firstCells, hnc, storeCells]
  | some ad =>
    have hcells : ∀ j u, (byVs l)[j]? = some u → w.cell? (ad.add j) = some u := by
      intro j u hu
      have hj : j < l.length := by
        rcases Nat.lt_or_ge j l.length with hj | hj
        · exact hj
        · rw [List.getElem?_eq_none (by rw [byVs_len]; exact hj)] at hu; cases hu
      obtain ⟨b, o, e, _, hc⟩ := h.2.2.2 (by have := h.1; omega)
      injection e with e
      subst e
      rw [byVs_get hj] at hu
      injection hu with hu
      subst hu
      rw [add_none]
      exact hc j (by have := h.1; omega)
    have h1 : ∀ u ∈ byVs l, u.oneCell' = true := by
      intro u hu
      simp only [byVs, List.mem_map] at hu
      obtain ⟨x, _, rfl⟩ := hu
      rfl
    obtain ⟨v', w', hrun, ho, hg, _, hloc⟩ := run_append_own_at (P := Try.prog) w base 120 ty 5 i (.int .u8 0) 1 1 und_bytes hi hz hs hb rfl (by decide) (.slice A0 n0 c0) n0 (byVs l0) hown.2.2 ad n c (byVs l) (by rw [byVs_len, h.1]; omega) hcells h1 (by unfold maxLen; omega) (by omega) hbase
    have hlen : l0.length = n0 := hown.2.1
    have hform : ∃ A' c', v' = .slice A' (n0 + n) c' := by
      rcases ho.2 with ⟨rfl, h0⟩ | ⟨g, cap, cur, rfl, _⟩
      · exact ⟨none, 0, by rw [h0]⟩
      · exact ⟨_, _, rfl⟩
    obtain ⟨A', c', rfl⟩ := hform
    have happ : byVs l0 ++ byVs l = byVs (l0 ++ l) := by simp [byVs]
    rw [happ] at ho
    rw [own_map] at hg
    rw [own_map, own_map] at hloc
    refine ⟨A', c', w', hrun, ⟨Wr.small_append.2 ⟨hown.1, h.2.2.1⟩, by rw [List.length_append, hlen, h.1], ho⟩, hg, ?_⟩
    rcases hloc with e | e
    · exact .inl e
    · exact .inr ⟨_, e, Nat.le_refl _⟩
set_option maxRecDepth 100000 in
/-- Bytes that are written out are put behind a row. -/
theorem Bo.puts {w : World} {base n c : Nat} {A : Option Addr} {l : List Nat} (h : Bo w base A n c l) (hbase : base ≤ w.heap.size) (xs : List Nat) (hx : Wr.Small xs) (hn : n + xs.length ≤ 9000000) (cs : Array Value) (hcs : cs = brr xs) (k : Nat) (hk : k = xs.length) :
    ∃ A' c' w', (Builtin.append_ #[120, 120] 120 #[.slice A n c, .slice (some ⟨w.heap.size, 0, none⟩) k k]).run Try.prog (w.alloc (.cells cs 5)) = .ok (.slice A' (n + k) c') w' ∧ Bo w' base A' (n + k) c' (l ++ xs) ∧ Gr w w' A A' := by
  subst hcs hk
  have hb := (Below.refl w.heap.size w).alloc (Nat.le_refl _) (.cells (brr xs) 5)
  obtain ⟨A', c', w', h1, h2, h3⟩ := (h.below hb).app (some ⟨w.heap.size, 0, none⟩) xs.length xs.length xs (By.new w xs hx) (by omega) (by simp; omega) 120
  exact ⟨A', c', w', h1, h2, ((Gr.refl w A).alloc _).trans h3⟩
set_option maxRecDepth 100000 in
/-- A text is put behind a row. -/
theorem Bo.text {w : World} {base n c : Nat} {A : Option Addr} {l : List Nat} (h : Bo w base A n c l) (hbase : base ≤ w.heap.size) (s : ByteArray) (hn : n + s.size ≤ 9000000) :
    ∃ A' c' w', (Builtin.append_ #[120, 9] 120 #[.slice A n c, .string s]).run Try.prog w = .ok (.slice A' (n + s.size) c') w' ∧ Bo w' base A' (n + s.size) c' (l ++ Wr.txt s) ∧ Gr w w' A A' := by
  obtain ⟨i, hi, hz, hs, hb⟩ := info_byte'
  have und : Try.prog.underlying 9 = some .string := by kernel_rfl
  obtain ⟨v', w', hrun, ho, hg, hnil⟩ := Go.Lib.run_append_own_string (P := Try.prog) w base 120 9 120 5 i und_bytes und hi hz hs hb (.slice A n c) n (byVs l) h.2.2 s (by unfold maxLen; omega) (by omega) hbase
  have hform : ∃ A' c', v' = .slice A' (n + s.size) c' := by
    rcases ho.2 with ⟨rfl, h0⟩ | ⟨g, cap, cur, rfl, _⟩
    · exact ⟨none, 0, by rw [h0]⟩
    · exact ⟨_, _, rfl⟩
  obtain ⟨A', c', rfl⟩ := hform
  have happ : byVs l ++ Go.Lib.strCells s = byVs (l ++ Wr.txt s) := by simp [byVs, Go.Lib.strCells, Wr.txt]
  rw [happ] at ho
  rw [own_map] at hg
  refine ⟨A', c', w', hrun, ⟨Wr.small_append.2 ⟨h.1, Wr.txt_small s⟩, by rw [List.length_append, h.2.1, Wr.txt_len], ho⟩, hg, ?_⟩
  rcases h.2.2.2 with ⟨hv, h0⟩ | ⟨g, cap, cur, hv, _, hgc, hnc, _, hsz, htk⟩
  · injection hv with hA _ hc
    subst hA hc h0
    by_cases hs0 : s.size = 0
    · have := hnil.2 ⟨rfl, hs0⟩
      injection this with e _ _
      exact .inl (by rw [e])
    · have hr := run_append_nil_string (P := Try.prog) w 120 9 120 5 i _ und_bytes und hi hz s (by omega) (by omega) (by rw [hb]; omega)
      rw [hrun] at hr
      injection hr with e _
      injection e with e _ _
      exact .inr ⟨_, by rw [e]; rfl, Nat.le_refl _⟩
  · injection hv with hA _ hc
    subst hA hc
    by_cases hroom : n + s.size ≤ c
    · have hr := Go.Lib.run_append_room_string (P := Try.prog) w 120 9 120 5 i und_bytes und hi hs g n c cur hgc s hroom (by omega)
      rw [hrun] at hr
      injection hr with e _
      injection e with e _ _
      exact .inl (by rw [e])
    · have hr := Go.Lib.run_append_grow_string (P := Try.prog) w 120 9 120 5 i _ und_bytes und hi hz ⟨g, 0, none⟩ n c (byVs l) (by rw [byVs_len, h.2.1, hs]; omega) (h.2.2.cells (g := g) rfl) s (by omega) (by omega) (by rw [hb]; exact growslice_fits (by omega) (by omega))
      rw [hrun] at hr
      injection hr with e _
      injection e with e _ _
      exact .inr ⟨_, by rw [e]; rfl, Nat.le_refl _⟩
set_option maxRecDepth 100000 in
theorem wpList_append_run2 {P : Program} {w w' : World} {ops : Array Oper} {rest : List Oper} {o : Oper} {a : Act} {Q : Exit → Act → World → Prop} (hgd : o.guard = none) (s x : Operand) (t u : TypeId)
    (ho : o.op = .call { callee := .builtin .append, args := #[s, x], argTypes := #[t, u] }) (v y v' : Value) (hs : a.eval s = v) (hx : a.eval x = y)
    (hrun : (Builtin.append_ #[t, u] o.type #[v, y]).run P w = .ok v' w') (h : wpList P ops Q rest (a.put o.dst v') w') : wpList P ops Q (o :: rest) a w := by
  refine wpList_plain hgd fun K hK' => ?_
  unfold Oper.wp
  simp [execOp, ho, resolve, invoke, builtin, hs, hx, hrun, Result.andThen]
  exact hK' _ _ h

set_option maxRecDepth 100000 in
theorem byte_shr (z k : Nat) : ((z / 256 ^ k % 256 : Nat) : Int) = (z : Int) / 2 ^ (8 * k) % 256 := by
  have e : (2 : Int) ^ (8 * k) = ((256 ^ k : Nat) : Int) := by rw [Int.pow_mul]; simp
  rw [e]
  simp

end Go.Proofs.Ytejmmjedognaaaa

namespace Go.Proofs.Ytejmmjedognaaaa
open Go.RowKit
open St

/-- The bytes of a word, the lowest first. -/
def byt (x : Int) (k : Nat) : Nat := (x / 2 ^ (8 * k) % 256).toNat
def byts : List Int → List Nat
  | [] => []
  | x :: ws => (List.range 8).map (byt x) ++ byts ws
set_option maxRecDepth 100000 in
theorem byts_len (ws : List Int) : (byts ws).length = ws.length * 8 := by
  induction ws with
  | nil => rfl
  | cons a ws ih => simp only [byts, List.length_append, List.length_map, List.length_range, List.length_cons, ih]; omega
set_option maxRecDepth 100000 in
theorem byts_get (ws : List Int) (i k : Nat) (hi : i < ws.length) (hk : k < 8) : (byts ws)[i * 8 + k]? = some (byt (ws.getD i 0) k) := by
  induction ws generalizing i with
  | nil => simp at hi
  | cons a ws ih =>
    cases i with
    | zero =>
      simp only [byts, Nat.zero_mul, Nat.zero_add]
      rw [List.getElem?_append_left (by simpa using hk)]
      simp [hk]
    | succ i =>
      have := ih i (by simpa using hi)
      simp only [byts]
      rw [List.getElem?_append_right (by simp; omega)]
      simp only [List.length_map, List.length_range]
      rw [show (i + 1) * 8 + k - 8 = i * 8 + k by omega, this]
      simp
set_option maxRecDepth 100000 in
theorem byt_small (x : Int) (k : Nat) : byt x k < 256 := by unfold byt; omega
set_option maxRecDepth 100000 in
theorem byts_small (ws : List Int) : Wr.Small (byts ws) := by
  induction ws with
  | nil => exact Wr.small_nil
  | cons a ws ih =>
    intro x hx
    simp only [byts, List.mem_append, List.mem_map] at hx
    rcases hx with ⟨k, _, rfl⟩ | hx
    · exact byt_small a k
    · exact ih x hx
/-- So many bytes, eight a word; nothing behind them. -/
def pkO (ws : List Int) (n : Nat) : Option (List Nat) := if ws.length = (n + 7) / 8 ∧ (∀ x ∈ (byts ws).drop n, x = 0) then some ((byts ws).take n) else none

/-- Up to a place: so many bytes, and nothing behind them. -/
structure PkI (ws : List Int) (n p : Nat) (l : List Nat) : Prop where
  l : l = (byts ws).take (min p n)
  z : ∀ j, n ≤ j → j < p → (byts ws)[j]? = some 0
set_option maxRecDepth 100000 in
theorem pk_end {ws : List Int} {n : Nat} {l : List Nat} (hl : ws.length = (n + 7) / 8) (h : PkI ws n (ws.length * 8) l) : pkO ws n = some l := by
  unfold pkO
  have hz : ∀ x ∈ (byts ws).drop n, x = 0 := fun x hx => by
    obtain ⟨j, hj⟩ := List.getElem?_of_mem hx
    rw [List.getElem?_drop] at hj
    have hlt : n + j < ws.length * 8 := by
      have := (List.getElem?_eq_some_iff.1 hj).1
      rw [byts_len] at this
      exact this
    have := h.z (n + j) (by omega) hlt
    rw [this] at hj
    injection hj with hj
    omega
  rw [if_pos ⟨hl, hz⟩, h.l, show min (ws.length * 8) n = n by omega]
set_option maxRecDepth 100000 in
theorem pk_bad {ws : List Int} {n p : Nat} (hn : n ≤ p) (x : Nat) (hx : (byts ws)[p]? = some x) (h0 : x ≠ 0) : pkO ws n = none := by
  unfold pkO
  refine if_neg fun h => h0 (h.2 x ?_)
  have : ((byts ws).drop n)[p - n]? = some x := by rw [List.getElem?_drop, show n + (p - n) = p by omega]; exact hx
  exact List.mem_of_getElem? this

set_option maxRecDepth 100000 in
theorem lk_str_nums (l : List Nat) : strOfNums (l.map fun x : Nat => (x : Int)) = Wr.str l := by
  unfold strOfNums Wr.str
  rw [List.map_map]
  congr 2
set_option maxRecDepth 100000 in
/-- string(bytes). -/
theorem lk_conv_bytes {w : World} {b o m c : Nat} {l : List Nat} (h : By w (some ⟨b, o, none⟩) m c l) : (convert 120 9 (.slice (some ⟨b, o, none⟩) m c)).run Try.prog w = .ok (.string (Wr.str l)) w := by
  have hl := h.1
  rw [← lk_str_nums]
  refine run_convert_bytes_arg (P := Try.prog) w 120 5 und_bytes (by kernel_rfl) b o m c (l.map fun x : Nat => (x : Int)) (by simp [hl]) (fun i hi => ?_) 9 (by kernel_rfl)
  obtain ⟨b', o', e, _, hc⟩ := h.2.2.2 (by omega)
  cases e
  rw [hc i hi]
  simp [Lm.lg, hl, hi]
/-- What packed answers. -/
def PkP (w : World) (ws : List Int) (n : Nat) (e : Ending) (w' : World) : Prop :=
  ((pkO ws n = none ∧ e = .returned (.tuple #[.string ⟨#[]⟩, .bool false])) ∨ ∃ l, pkO ws n = some l ∧ e = .returned (.tuple #[.string (Wr.str l), .bool true])) ∧ Below w.heap.size w w'

end Go.Proofs.Ytejmmjedognaaaa

namespace Go.Proofs.Ytejmmjedognaaaa
open Go.RowKit
open St

set_option maxRecDepth 100000 in
theorem sml_cases (x most : Int) : (most < x ∧ smlZ x most = -1) ∨ (x ≤ most ∧ smlZ x most = x) := by
  unfold smlZ
  by_cases h : most < x
  · rw [if_pos h]; exact .inl ⟨h, rfl⟩
  · rw [if_neg h]; exact .inr ⟨by omega, rfl⟩

/-- The bytes of a HeadBytes. -/
def byH (ws : List Int) : ByteArray × Int × Bool :=
  if smlZ (ws.getD 0 0) 64 < 0 then (⟨#[]⟩, 0, false)
  else match pkO (ws.drop 1) (smlZ (ws.getD 0 0) 64).toNat with
    | some l => (Wr.str l, smlZ (ws.getD 0 0) 64, true)
    | none => (⟨#[]⟩, smlZ (ws.getD 0 0) 64, false)
/-- The bytes of a HeadRefc. -/
def byC (S : List Slt) (dp : Bool) (ws : List Int) : ByteArray × Int × Bool :=
  if smlZ (ws.getD 0 0) 1073741824 < 0 ∨ smlZ (ws.getD 1 0) 1073741824 < 0 ∨ smlZ (ws.getD 2 0) 400 < 0 then (⟨#[]⟩, 0, false)
  else if dp = false then (⟨#[]⟩, smlZ (ws.getD 2 0) 400, true)
  else if (S.length : Int) ≤ smlZ (ws.getD 0 0) 1073741824 ∨ (gt S (smlZ (ws.getD 0 0) 1073741824).toNat).ct = 0 ∨ (gt S (smlZ (ws.getD 0 0) 1073741824).toNat).st ≠ smlZ (ws.getD 1 0) 1073741824 ∨ ((gt S (smlZ (ws.getD 0 0) 1073741824).toNat).tx.size : Int) ≠ smlZ (ws.getD 2 0) 400 then (⟨#[]⟩, 0, false)
  else ((gt S (smlZ (ws.getD 0 0) 1073741824).toNat).tx, smlZ (ws.getD 2 0) 400, true)
def byR (S : List Slt) (dp : Bool) (kd : Int) (ws : List Int) : ByteArray × Int × Bool :=
  if kd = 3 ∧ 1 ≤ ws.length then byH ws else if kd = 4 ∧ ws.length = 3 then byC S dp ws else (⟨#[]⟩, 0, false)
/-- What bytes answers. -/
def ByP (w : World) (x : ByteArray × Int × Bool) (e : Ending) (w' : World) : Prop := e = .returned (.tuple #[.string x.1, .int .i64 x.2.1, .bool x.2.2]) ∧ Below w.heap.size w w'

section
variable {w : World} {r : DR} {SA : Option Addr} {sm sc : Nat} {S : List Slt} {dp : Bool} {A : Option Addr} {n c : Nat} {ws : List Int}
end
end Go.Proofs.Ytejmmjedognaaaa
