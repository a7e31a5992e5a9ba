/-
  BYTES THAT ARE PUT BEHIND A ROW; PACKAGE wire: laidNumber; the reference's num.
  THE REFERENCE's LOOK: packed.
  THE REFERENCE's LOOK: bytes.
-/
import Derived.Test.YtejmmjedognaaaaGreatMv19
import Derived.Test.YtejmmjedognaaaaGreatMv5
import Derived.Laws.BytesArg
namespace Go.Proofs.YtejmmjedognaaaaGreat
open Go.RowKit

/-- What putting bytes behind a row changes: that row, and new blocks. -/
structure Gr (w w' : World) (A A' : Option Addr) : Prop where
  g : w.grownBy w' (A.map (·.block))
  loc : A'.map (·.block) = A.map (·.block) ∨ ∃ k, A'.map (·.block) = some k ∧ w.heap.size ≤ k
/-- The row does not lie in that block. -/
def Av (A : Option Addr) (b : Nat) : Prop := A.map (·.block) ≠ some b
set_option maxRecDepth 100000 in
theorem own_map (A : Option Addr) (n c : Nat) : (Value.slice A n c).ownBlock = A.map (·.block) := by cases A <;> rfl
set_option maxRecDepth 100000 in
theorem Gr.refl (w : World) (A : Option Addr) : Gr w w A A := ⟨World.grownBy.refl _ _, .inl rfl⟩
set_option maxRecDepth 100000 in
theorem Gr.alloc {w w' : World} {A A' : Option Addr} (h : Gr w w' A A') (o : Obj) : Gr w (w'.alloc o) A A' := ⟨grown_tr h.g (World.grownBy_alloc w' o _), h.loc⟩
set_option maxRecDepth 100000 in
theorem Gr.trans {a b c : World} {A A' A'' : Option Addr} (h : Gr a b A A') (k : Gr b c A' A'') : Gr a c A A'' := by
  refine ⟨⟨k.g.os.trans h.g.os, k.g.tape.trans h.g.tape, k.g.output.trans h.g.output, Nat.le_trans h.g.size k.g.size, fun i hi hne => ?_⟩, ?_⟩
  · refine (k.g.block i (Nat.lt_of_lt_of_le hi h.g.size) ?_).trans (h.g.block i hi hne)
    rcases h.loc with e | ⟨j, e, hj⟩
    · rw [e]; exact hne
    · rw [e]; intro e'; cases e'; omega
  · rcases k.loc with e | ⟨j, e, hj⟩
    · rw [e]; exact h.loc
    · exact .inr ⟨j, e, Nat.le_trans h.g.size hj⟩
set_option maxRecDepth 100000 in
theorem Gr.box {w w' : World} {A A' : Option Addr} (h : Gr w w' A A') {b : Nat} (hb : b < w.heap.size) (ha : Av A b) : w'.heap[b]? = w.heap[b]? := h.g.block b hb (fun e => ha e.symm)
set_option maxRecDepth 100000 in
theorem Gr.av {w w' : World} {A A' : Option Addr} (h : Gr w w' A A') {b : Nat} (hb : b < w.heap.size) (ha : Av A b) : Av A' b := by
  intro e
  rcases h.loc with e' | ⟨j, e', hj⟩
  · rw [e'] at e; exact ha e
  · rw [e'] at e; cases e; omega
set_option maxRecDepth 100000 in
theorem Bo.av {w : World} {base n c : Nat} {A : Option Addr} {l : List Nat} (h : Bo w base A n c l) {b : Nat} (hb : w.heap.size ≤ b) : Av A b := by
  intro e
  have := (World.ownsRow.lt h.2.2 b (by rw [own_map]; exact e)).2
  omega
set_option maxRecDepth 100000 in
theorem Gr.below {w w' : World} {A A' : Option Addr} (h : Gr w w' A A') {base n c : Nat} {l : List Nat} (hB : Bo w base A n c l) (hb : base ≤ w.heap.size) : Below base w w' :=
  (Below.refl base w).grown h.g hb (fun k hk => (World.ownsRow.lt hB.2.2 k (by rw [own_map]; exact hk)).1)

/-- What a call leaves that puts bytes behind a row. -/
def LdP (w : World) (base : Nat) (A : Option Addr) (n : Nat) (l l' : List Nat) (e : Ending) (w' : World) : Prop :=
  ∃ A' c', e = .returned (.slice A' (n + l'.length) c') ∧ Bo w' base A' (n + l'.length) c' (l ++ l') ∧ Gr w w' A A'

set_option maxRecDepth 100000 in
/-- append(row, bytes...). -/
theorem Bo.app {w : World} {base : Nat} {A0 : Option Addr} {n0 c0 : Nat} {l0 : List Nat} (hown : Bo w base A0 n0 c0 l0) (A : Option Addr) (n c : Nat) (l : List Nat) (h : By w A n c l) (hn : n0 + n ≤ 10000000) (hbase : base ≤ w.heap.size) (ty : TypeId) :
    ∃ A' c' w', (Builtin.append_ #[163, 163] ty #[.slice A0 n0 c0, .slice A n c]).run Tryz.prog w = .ok (.slice A' (n0 + n) c') w' ∧ Bo w' base A' (n0 + n) c' (l0 ++ l) ∧ Gr w w' A0 A' := by
  obtain ⟨i, hi, hz, hs, hb⟩ := info_byte'
  cases A with
  | none =>
    have h0 : n = 0 := by
      rcases Nat.eq_zero_or_pos n with h0 | h0
      · exact h0
      · obtain ⟨b, o, e, _⟩ := h.2.2.2 h0
        cases e
    subst h0
    have hl : l = [] := List.eq_nil_of_length_eq_zero h.1
    subst hl
    refine ⟨A0, c0, w, ?_, by simpa using hown, Gr.refl _ _⟩
    rcases hown.2.2.2 with ⟨hv, h0⟩ | ⟨g, cap, cur, hv, _, _, hnc, _⟩
    · injection hv with hA _ hc
      subst hA hc h0
      simp [Builtin.append_, run_underlying und_bytes, sizeOf, typeInfo, hi, Builtin.lenOf, Builtin.firstCells]
    · injection hv with hA _ hc
      subst hA hc
      simp [Builtin.append_, run_underlying und_bytes, sizeOf, typeInfo, hi, Builtin.lenOf, Builtin.firstCells, hnc, storeCells]
  | some ad =>
    have hcells : ∀ j u, (byVs l)[j]? = some u → w.cell? (ad.add j) = some u := by
      intro j u hu
      have hj : j < l.length := by
        rcases Nat.lt_or_ge j l.length with hj | hj
        · exact hj
        · rw [List.getElem?_eq_none (by rw [byVs_len]; exact hj)] at hu; cases hu
      obtain ⟨b, o, e, _, hc⟩ := h.2.2.2 (by have := h.1; omega)
      injection e with e
      subst e
      rw [byVs_get hj] at hu
      injection hu with hu
      subst hu
      rw [add_none]
      exact hc j (by have := h.1; omega)
    have h1 : ∀ u ∈ byVs l, u.oneCell' = true := by
      intro u hu
      simp only [byVs, List.mem_map] at hu
      obtain ⟨x, _, rfl⟩ := hu
      rfl
    obtain ⟨v', w', hrun, ho, hg, _, hloc⟩ := run_append_own_at (P := Tryz.prog) w base 163 ty 5 i (.int .u8 0) 1 1 und_bytes hi hz hs hb rfl (by decide) (.slice A0 n0 c0) n0 (byVs l0) hown.2.2 ad n c (byVs l) (by rw [byVs_len, h.1]; omega) hcells h1 (by unfold maxLen; omega) (by omega) hbase
    have hlen : l0.length = n0 := hown.2.1
    have hform : ∃ A' c', v' = .slice A' (n0 + n) c' := by
      rcases ho.2 with ⟨rfl, h0⟩ | ⟨g, cap, cur, rfl, _⟩
      · exact ⟨none, 0, by rw [h0]⟩
      · exact ⟨_, _, rfl⟩
    obtain ⟨A', c', rfl⟩ := hform
    have happ : byVs l0 ++ byVs l = byVs (l0 ++ l) := by simp [byVs]
    rw [happ] at ho
    rw [own_map] at hg
    rw [own_map, own_map] at hloc
    refine ⟨A', c', w', hrun, ⟨Wr.small_append.2 ⟨hown.1, h.2.2.1⟩, by rw [List.length_append, hlen, h.1], ho⟩, hg, ?_⟩
    rcases hloc with e | e
    · exact .inl e
    · exact .inr ⟨_, e, Nat.le_refl _⟩
set_option maxRecDepth 100000 in
/-- Bytes that are written out are put behind a row. -/
theorem Bo.puts {w : World} {base n c : Nat} {A : Option Addr} {l : List Nat} (h : Bo w base A n c l) (hbase : base ≤ w.heap.size) (xs : List Nat) (hx : Wr.Small xs) (hn : n + xs.length ≤ 9000000) (cs : Array Value) (hcs : cs = brr xs) (k : Nat) (hk : k = xs.length) :
    ∃ A' c' w', (Builtin.append_ #[163, 163] 163 #[.slice A n c, .slice (some ⟨w.heap.size, 0, none⟩) k k]).run Tryz.prog (w.alloc (.cells cs 5)) = .ok (.slice A' (n + k) c') w' ∧ Bo w' base A' (n + k) c' (l ++ xs) ∧ Gr w w' A A' := by
  subst hcs hk
  have hb := (Below.refl w.heap.size w).alloc (Nat.le_refl _) (.cells (brr xs) 5)
  obtain ⟨A', c', w', h1, h2, h3⟩ := (h.below hb).app (some ⟨w.heap.size, 0, none⟩) xs.length xs.length xs (By.new w xs hx) (by omega) (by simp; omega) 163
  exact ⟨A', c', w', h1, h2, ((Gr.refl w A).alloc _).trans h3⟩
set_option maxRecDepth 100000 in
/-- A text is put behind a row. -/
theorem Bo.text {w : World} {base n c : Nat} {A : Option Addr} {l : List Nat} (h : Bo w base A n c l) (hbase : base ≤ w.heap.size) (s : ByteArray) (hn : n + s.size ≤ 9000000) :
    ∃ A' c' w', (Builtin.append_ #[163, 9] 163 #[.slice A n c, .string s]).run Tryz.prog w = .ok (.slice A' (n + s.size) c') w' ∧ Bo w' base A' (n + s.size) c' (l ++ Wr.txt s) ∧ Gr w w' A A' := by
  obtain ⟨i, hi, hz, hs, hb⟩ := info_byte'
  have und : Tryz.prog.underlying 9 = some .string := by kernel_rfl
  obtain ⟨v', w', hrun, ho, hg, hnil⟩ := Go.Lib.run_append_own_string (P := Tryz.prog) w base 163 9 163 5 i und_bytes und hi hz hs hb (.slice A n c) n (byVs l) h.2.2 s (by unfold maxLen; omega) (by omega) hbase
  have hform : ∃ A' c', v' = .slice A' (n + s.size) c' := by
    rcases ho.2 with ⟨rfl, h0⟩ | ⟨g, cap, cur, rfl, _⟩
    · exact ⟨none, 0, by rw [h0]⟩
    · exact ⟨_, _, rfl⟩
  obtain ⟨A', c', rfl⟩ := hform
  have happ : byVs l ++ Go.Lib.strCells s = byVs (l ++ Wr.txt s) := by simp [byVs, Go.Lib.strCells, Wr.txt]
  rw [happ] at ho
  rw [own_map] at hg
  refine ⟨A', c', w', hrun, ⟨Wr.small_append.2 ⟨h.1, Wr.txt_small s⟩, by rw [List.length_append, h.2.1, Wr.txt_len], ho⟩, hg, ?_⟩
  rcases h.2.2.2 with ⟨hv, h0⟩ | ⟨g, cap, cur, hv, _, hgc, hnc, _, hsz, htk⟩
  · injection hv with hA _ hc
    subst hA hc h0
    by_cases hs0 : s.size = 0
    · have := hnil.2 ⟨rfl, hs0⟩
      injection this with e _ _
      exact .inl (by rw [e])
    · have hr := run_append_nil_string (P := Tryz.prog) w 163 9 163 5 i _ und_bytes und hi hz s (by omega) (by omega) (by rw [hb]; omega)
      rw [hrun] at hr
      injection hr with e _
      injection e with e _ _
      exact .inr ⟨_, by rw [e]; rfl, Nat.le_refl _⟩
  · injection hv with hA _ hc
    subst hA hc
    by_cases hroom : n + s.size ≤ c
    · have hr := Go.Lib.run_append_room_string (P := Tryz.prog) w 163 9 163 5 i und_bytes und hi hs g n c cur hgc s hroom (by omega)
      rw [hrun] at hr
      injection hr with e _
      injection e with e _ _
      exact .inl (by rw [e])
    · have hr := Go.Lib.run_append_grow_string (P := Tryz.prog) w 163 9 163 5 i _ und_bytes und hi hz ⟨g, 0, none⟩ n c (byVs l) (by rw [byVs_len, h.2.1, hs]; omega) (h.2.2.cells (g := g) rfl) s (by omega) (by omega) (by rw [hb]; exact growslice_fits (by omega) (by omega))
      rw [hrun] at hr
      injection hr with e _
      injection e with e _ _
      exact .inr ⟨_, by rw [e]; rfl, Nat.le_refl _⟩
set_option maxRecDepth 100000 in
theorem wpList_append_run2 {P : Program} {w w' : World} {ops : Array Oper} {rest : List Oper} {o : Oper} {a : Act} {Q : Exit → Act → World → Prop} (hgd : o.guard = none) (s x : Operand) (t u : TypeId)
    (ho : o.op = .call { callee := .builtin .append, args := #[s, x], argTypes := #[t, u] }) (v y v' : Value) (hs : a.eval s = v) (hx : a.eval x = y)
    (hrun : (Builtin.append_ #[t, u] o.type #[v, y]).run P w = .ok v' w') (h : wpList P ops Q rest (a.put o.dst v') w') : wpList P ops Q (o :: rest) a w := by
  refine wpList_plain hgd fun K hK' => ?_
  unfold Oper.wp
  simp [execOp, ho, resolve, invoke, builtin, hs, hx, hrun, Result.andThen]
  exact hK' _ _ h

set_option maxRecDepth 100000 in
theorem byte_shr (z k : Nat) : ((z / 256 ^ k % 256 : Nat) : Int) = (z : Int) / 2 ^ (8 * k) % 256 := by
  have e : (2 : Int) ^ (8 * k) = ((256 ^ k : Nat) : Int) := by rw [Int.pow_mul]; simp
  rw [e]
  simp

end Go.Proofs.YtejmmjedognaaaaGreat

namespace Go.Proofs.YtejmmjedognaaaaGreat
open Go.RowKit
open St

/-- The bytes of a word, the lowest first. -/
def byt (x : Int) (k : Nat) : Nat := (x / 2 ^ (8 * k) % 256).toNat
def byts : List Int → List Nat
  | [] => []
  | x :: ws => (List.range 8).map (byt x) ++ byts ws
set_option maxRecDepth 100000 in
theorem byts_len (ws : List Int) : (byts ws).length = ws.length * 8 := by
  induction ws with
  | nil => rfl
  | cons a ws ih => simp only [byts, List.length_append, List.length_map, List.length_range, List.length_cons, ih]; omega
set_option maxRecDepth 100000 in
theorem byts_get (ws : List Int) (i k : Nat) (hi : i < ws.length) (hk : k < 8) : (byts ws)[i * 8 + k]? = some (byt (ws.getD i 0) k) := by
  induction ws generalizing i with
  | nil => simp at hi
  | cons a ws ih =>
    cases i with
    | zero =>
      simp only [byts, Nat.zero_mul, Nat.zero_add]
      rw [List.getElem?_append_left (by simpa using hk)]
      simp [hk]
    | succ i =>
      have := ih i (by simpa using hi)
      simp only [byts]
      rw [List.getElem?_append_right (by simp; omega)]
      simp only [List.length_map, List.length_range]
      rw [show (i + 1) * 8 + k - 8 = i * 8 + k by omega, this]
      simp
set_option maxRecDepth 100000 in
theorem byt_small (x : Int) (k : Nat) : byt x k < 256 := by unfold byt; omega
set_option maxRecDepth 100000 in
theorem byts_small (ws : List Int) : Wr.Small (byts ws) := by
  induction ws with
  | nil => exact Wr.small_nil
  | cons a ws ih =>
    intro x hx
    simp only [byts, List.mem_append, List.mem_map] at hx
    rcases hx with ⟨k, _, rfl⟩ | hx
    · exact byt_small a k
    · exact ih x hx
/-- So many bytes, eight a word; nothing behind them. -/
def pkO (ws : List Int) (n : Nat) : Option (List Nat) := if ws.length = (n + 7) / 8 ∧ (∀ x ∈ (byts ws).drop n, x = 0) then some ((byts ws).take n) else none

/-- Up to a place: so many bytes, and nothing behind them. -/
structure PkI (ws : List Int) (n p : Nat) (l : List Nat) : Prop where
  l : l = (byts ws).take (min p n)
  z : ∀ j, n ≤ j → j < p → (byts ws)[j]? = some 0
set_option maxRecDepth 100000 in
theorem pk_end {ws : List Int} {n : Nat} {l : List Nat} (hl : ws.length = (n + 7) / 8) (h : PkI ws n (ws.length * 8) l) : pkO ws n = some l := by
  unfold pkO
  have hz : ∀ x ∈ (byts ws).drop n, x = 0 := fun x hx => by
    obtain ⟨j, hj⟩ := List.getElem?_of_mem hx
    rw [List.getElem?_drop] at hj
    have hlt : n + j < ws.length * 8 := by
      have := (List.getElem?_eq_some_iff.1 hj).1
      rw [byts_len] at this
      exact this
    have := h.z (n + j) (by omega) hlt
    rw [this] at hj
    injection hj with hj
    omega
  rw [if_pos ⟨hl, hz⟩, h.l, show min (ws.length * 8) n = n by omega]
set_option maxRecDepth 100000 in
theorem pk_bad {ws : List Int} {n p : Nat} (hn : n ≤ p) (x : Nat) (hx : (byts ws)[p]? = some x) (h0 : x ≠ 0) : pkO ws n = none := by
  unfold pkO
  refine if_neg fun h => h0 (h.2 x ?_)
  have : ((byts ws).drop n)[p - n]? = some x := by rw [List.getElem?_drop, show n + (p - n) = p by omega]; exact hx
  exact List.mem_of_getElem? this

set_option maxRecDepth 100000 in
theorem lk_str_nums (l : List Nat) : strOfNums (l.map fun x : Nat => (x : Int)) = Wr.str l := by
  unfold strOfNums Wr.str
  rw [List.map_map]
  congr 2
set_option maxRecDepth 100000 in
/-- string(bytes). -/
theorem lk_conv_bytes {w : World} {b o m c : Nat} {l : List Nat} (h : By w (some ⟨b, o, none⟩) m c l) : (convert 163 9 (.slice (some ⟨b, o, none⟩) m c)).run Tryz.prog w = .ok (.string (Wr.str l)) w := by
  have hl := h.1
  rw [← lk_str_nums]
  refine run_convert_bytes_arg (P := Tryz.prog) w 163 5 und_bytes (by kernel_rfl) b o m c (l.map fun x : Nat => (x : Int)) (by simp [hl]) (fun i hi => ?_) 9 (by kernel_rfl)
  obtain ⟨b', o', e, _, hc⟩ := h.2.2.2 (by omega)
  cases e
  rw [hc i hi]
  simp [Lm.lg, hl, hi]
/-- What packed answers. -/
def PkP (w : World) (ws : List Int) (n : Nat) (e : Ending) (w' : World) : Prop :=
  ((pkO ws n = none ∧ e = .returned (.tuple #[.string ⟨#[]⟩, .bool false])) ∨ ∃ l, pkO ws n = some l ∧ e = .returned (.tuple #[.string (Wr.str l), .bool true])) ∧ Below w.heap.size w w'

set_option maxRecDepth 100000 in
set_option maxRecDepth 100000 in
set_option maxHeartbeats 4000000 in
theorem packed12_any {w : World} {A : Option Addr} {m c : Nat} {ws : List Int} (h : Zs .u64 w A m c ws) (n : Nat) (hn : n ≤ 1000) (hm : m ≤ 1000) :
    Calls Tryz.prog 101 #[.slice A m c, .int .i64 (n : Int)] w (PkP w ws n) := by
  have hl := h.len
  have hq : ((n : Int) + 7).tdiv 8 = (((n + 7) / 8 : Nat) : Int) := by
    rw [Int.tdiv_eq_ediv_of_nonneg (by omega)]
    omega
  by_cases hmn : m = (n + 7) / 8
  · have hd0 : ((m : Int) != (((n + 7) / 8 : Nat) : Int)) = false := by rw [hmn]; simp
    go_enter Tryz.func101, Tryz.ntmps101
    go_wp2_with fail
    have HZ := Lib.hid h
    clear h hq hd0
    replace hmn := Lib.hid hmn
    go_loopw [6, 7] (fun v6 v7 wx => ∃ (i : Nat) (A' : Option Addr) (c' : Nat) (l : List Nat), i ≤ m ∧ v7 = .int .i64 (i : Int) ∧ v6 = .slice A' (min (i * 8) n) c' ∧ Bo wx w.heap.size A' (min (i * 8) n) c' l ∧ PkI ws n (i * 8) l ∧ Below w.heap.size w wx) (fun _ v7 _ => m - (intOf v7).toNat)
    case atStart => exact ⟨0, none, 0, [], Nat.zero_le _, rfl, by simp, by simpa using Bo.nil w w.heap.size, ⟨by simp, fun j h1 h2 => by omega⟩, Below.refl _ _⟩
    case round =>
      obtain ⟨i, A', c', l, hi, rfl, rfl, hB, hP, hb⟩ := hrel
      by_cases him : i < m
      · have hd1 : decide ((i : Int) < (m : Int)) = true := decide_eq_true (by omega)
        replace hB := Lib.hid hB
        replace hP := Lib.hid hP
        replace hb := Lib.hid hb
        go_wp2_with fail
        go_loopw [6, 8, 9] (fun v6 v8 v9 wx => ∃ (k : Nat) (A' : Option Addr) (c' : Nat) (l : List Nat), k ≤ 8 ∧ v8 = .int .i64 (k : Int) ∧ v6 = .slice A' (min (i * 8 + k) n) c' ∧ Bo wx w.heap.size A' (min (i * 8 + k) n) c' l ∧ PkI ws n (i * 8 + k) l ∧ Below w.heap.size w wx) (fun _ v8 _ _ => 8 - (intOf v8).toNat)
        case atStart => exact ⟨0, A', c', l, by omega, rfl, rfl, hB.out, hP.out, hb.out⟩
        case round =>
          clear hB hP hb
          obtain ⟨k, A', c', l, hk, rfl, rfl, hB, hP, hb⟩ := hrel
          have hzb := HZ.out.below hb
          replace hB := Lib.hid hB
          replace hP := Lib.hid hP
          replace hb := Lib.hid hb
          by_cases hk8 : k < 8
          · have hd2 : decide ((k : Int) < 8) = true := decide_eq_true (by omega)
            obtain ⟨b, o, rfl, _⟩ := hzb.some (by omega)
            have y0 := hzb.at_ him
            have hget := byts_get ws i k (by omega) hk8
            clear hzb
            generalize ws.getD i 0 = x at *
            replace hget := Lib.hid hget
            go_upto_region 11 with fail
            replace hget := hget.out
            have hbz : x / 2 ^ (8 * k) % 256 = ((byt x k : Nat) : Int) := by
              unfold byt
              omega
            have hsm := byt_small x k
            generalize x / 2 ^ (8 * k) % 256 = bz at *
            generalize byt x k = B at *
            subst hbz
            by_cases hp : i * 8 + k < n
            · have e1 : min (i * 8 + k) n = i * 8 + k := by omega
              rw [e1] at hB ⊢
              have hd3 : decide (((i * 8 + k : Nat) : Int) < (n : Int)) = true := decide_eq_true (by omega)
              have hPn : Hid (PkI ws n (i * 8 + (k + 1)) (l ++ [B])) := Lib.hid ⟨by
                rw [show min (i * 8 + (k + 1)) n = (i * 8 + k) + 1 by omega, List.take_add_one, hget, hP.out.l, e1]
                rfl, fun j h1 h2 => by omega⟩
              have hbn : Below wr.heap.size wr (wr.alloc (.cells (brr [B]) 5)) := (Below.refl _ _).alloc (Nat.le_refl _) _
              obtain ⟨A2, c2, w2, run2, hB2, hG2⟩ := (hB.out.below hbn).app (some ⟨wr.heap.size, 0, none⟩) 1 1 [B] (By.new wr [B] (fun x hx => by simp at hx; omega)) (by omega) (Nat.le_trans hb.out.size hbn.size) 163
              have hb2 : Hid (Below w.heap.size w w2) := Lib.hid ((hb.out.trans (hbn.mono hb.out.size)).trans (hG2.below (hB.out.below hbn) (Nat.le_trans hb.out.size hbn.size)))
              have HB2 := Lib.hid hB2
              rw [show brr [B] = #[.int .u8 (B : Int)] from rfl] at run2
              have R2 := Lib.hid run2
              clear hB hP hb hbn run2 hB2 hG2 y0 hget
              go_wp2_with (at_builtin; refine wpApp rfl (.tmp 38) (.tmp 40) _ rfl _ _ _ rfl rfl R2.out ?_)
              exact ⟨⟨k + 1, A2, c2, l ++ [B], by omega, rfl, by rw [show min (i * 8 + (k + 1)) n = i * 8 + k + 1 by omega], by rw [show min (i * 8 + (k + 1)) n = i * 8 + k + 1 by omega]; exact HB2.out, hPn.out, hb2.out⟩, by simp [intOf]; omega⟩
            · have e1 : min (i * 8 + k) n = n := by omega
              rw [e1] at hB ⊢
              have hd3 : decide ((n : Int) < (n : Int)) = false := decide_eq_false (by omega)
              by_cases hB0 : B = 0
              · subst hB0
                have hPn : Hid (PkI ws n (i * 8 + (k + 1)) l) := Lib.hid ⟨by
                  rw [show min (i * 8 + (k + 1)) n = n by omega, hP.out.l, e1], fun j h1 h2 => by
                  by_cases ej : j < i * 8 + k
                  · exact hP.out.z j h1 ej
                  · rw [show j = i * 8 + k by omega]; exact hget⟩
                clear hP y0 hget
                go_wp2_with fail
                exact ⟨⟨k + 1, A', c', l, by omega, rfl, by rw [show min (i * 8 + (k + 1)) n = n by omega], by rw [show min (i * 8 + (k + 1)) n = n by omega]; exact hB.out, hPn.out, hb.out⟩, by simp [intOf]; omega⟩
              · have HN := Lib.hid (pk_bad (n := n) (p := i * 8 + k) (by omega) B hget hB0)
                have hd4 : ((B : Int) != 0) = true := bne_iff_ne.2 (by omega)
                clear hP y0 hget
                go_wp2
                go_ret2
                exact ⟨.inl ⟨HN.out, rfl⟩, hb.out⟩
          · have ek : k = 8 := by omega
            subst ek
            have hd2 : decide (((8 : Nat) : Int) < 8) = false := decide_eq_false (by omega)
            have e8 : (i + 1) * 8 = i * 8 + 8 := by omega
            clear hzb
            go_wp2_with fail
            exact ⟨⟨i + 1, A', c', l, by omega, rfl, by rw [e8], by rw [e8]; exact hB.out, by rw [e8]; exact hP.out, hb.out⟩, by simp [intOf]; omega⟩
      · have ei : i = m := by omega
        subst ei
        have hd1 : decide ((i : Int) < (i : Int)) = false := decide_eq_false (by omega)
        have HN := Lib.hid (pk_end (by rw [hl]; exact hmn.out) (by rw [hl]; exact hP))
        have e1 : min (i * 8) n = n := by have := hmn.out; omega
        rw [e1] at hB ⊢
        rcases hB.2.2.2 with ⟨hv, h0⟩ | ⟨g, cap, cur, hv, _⟩
        · injection hv with hA hl0 hc0
          subst hA hc0
          have hl00 : l = [] := List.eq_nil_of_length_eq_zero (by rw [hB.2.1, h0])
          subst hl00
          clear hB hP HZ e1
          subst hl0
          have HC0 : ∀ w : World, (convert 163 9 (.slice none 0 0)).run Tryz.prog w = .ok (.string ⟨#[]⟩) w := fun _ => by kernel_rfl
          go_wp2
          go_ret2
          exact ⟨.inr ⟨[], HN.out, rfl⟩, hb⟩
        · injection hv with hA _ hc0
          subst hA hc0
          have hconv := fun (w' : World) (hbw : wr = w') => lk_conv_bytes (hbw ▸ hB.by)
          have HC := hconv wr rfl
          clear hB hP HZ hconv e1
          go_wp2
          go_ret2
          exact ⟨.inr ⟨l, HN.out, rfl⟩, hb⟩
  · have hd0 : ((m : Int) != (((n + 7) / 8 : Nat) : Int)) = true := bne_iff_ne.2 (by omega)
    have HN := Lib.hid (show pkO ws n = none from if_neg (fun e => hmn (by rw [← hl]; exact e.1)))
    go_enter Tryz.func101, Tryz.ntmps101
    go_wp2
    go_ret2
    exact ⟨.inl ⟨HN.out, rfl⟩, Below.refl _ _⟩
end Go.Proofs.YtejmmjedognaaaaGreat

namespace Go.Proofs.YtejmmjedognaaaaGreat
open Go.RowKit
open St

set_option maxRecDepth 100000 in
theorem sml_cases (x most : Int) : (most < x ∧ smlZ x most = -1) ∨ (x ≤ most ∧ smlZ x most = x) := by
  unfold smlZ
  by_cases h : most < x
  · rw [if_pos h]; exact .inl ⟨h, rfl⟩
  · rw [if_neg h]; exact .inr ⟨by omega, rfl⟩

set_option maxRecDepth 100000 in
theorem packed12_none {w : World} {A : Option Addr} {m c : Nat} {ws : List Int} (h : Zs .u64 w A m c ws) (n : Nat) (hn : n ≤ 1000) (hm : m ≤ 1000) (hp : pkO ws n = none) :
    Calls Tryz.prog 101 #[.slice A m c, .int .i64 (n : Int)] w fun e w' => e = .returned (.tuple #[.string ⟨#[]⟩, .bool false]) ∧ Below w.heap.size w w' :=
  (packed12_any h n hn hm).mono fun e w' hh => by
    obtain ⟨⟨_, rfl⟩ | ⟨l, hl, _⟩, hb⟩ := hh
    · exact ⟨rfl, hb⟩
    · rw [hp] at hl; cases hl
set_option maxRecDepth 100000 in
theorem packed12_some {w : World} {A : Option Addr} {m c : Nat} {ws : List Int} (h : Zs .u64 w A m c ws) (n : Nat) (hn : n ≤ 1000) (hm : m ≤ 1000) {l : List Nat} (hp : pkO ws n = some l) :
    Calls Tryz.prog 101 #[.slice A m c, .int .i64 (n : Int)] w fun e w' => e = .returned (.tuple #[.string (Wr.str l), .bool true]) ∧ Below w.heap.size w w' :=
  (packed12_any h n hn hm).mono fun e w' hh => by
    obtain ⟨⟨hl, _⟩ | ⟨l', hl, rfl⟩, hb⟩ := hh
    · rw [hp] at hl; cases hl
    · rw [hp] at hl
      injection hl with hl
      subst hl
      exact ⟨rfl, hb⟩

/-- The bytes of a HeadBytes. -/
def byH (ws : List Int) : ByteArray × Int × Bool :=
  if smlZ (ws.getD 0 0) 64 < 0 then (⟨#[]⟩, 0, false)
  else match pkO (ws.drop 1) (smlZ (ws.getD 0 0) 64).toNat with
    | some l => (Wr.str l, smlZ (ws.getD 0 0) 64, true)
    | none => (⟨#[]⟩, smlZ (ws.getD 0 0) 64, false)
/-- The bytes of a HeadRefc. -/
def byC (S : List Slt) (dp : Bool) (ws : List Int) : ByteArray × Int × Bool :=
  if smlZ (ws.getD 0 0) 1073741824 < 0 ∨ smlZ (ws.getD 1 0) 1073741824 < 0 ∨ smlZ (ws.getD 2 0) 400 < 0 then (⟨#[]⟩, 0, false)
  else if dp = false then (⟨#[]⟩, smlZ (ws.getD 2 0) 400, true)
  else if (S.length : Int) ≤ smlZ (ws.getD 0 0) 1073741824 ∨ (gt S (smlZ (ws.getD 0 0) 1073741824).toNat).ct = 0 ∨ (gt S (smlZ (ws.getD 0 0) 1073741824).toNat).st ≠ smlZ (ws.getD 1 0) 1073741824 ∨ ((gt S (smlZ (ws.getD 0 0) 1073741824).toNat).tx.size : Int) ≠ smlZ (ws.getD 2 0) 400 then (⟨#[]⟩, 0, false)
  else ((gt S (smlZ (ws.getD 0 0) 1073741824).toNat).tx, smlZ (ws.getD 2 0) 400, true)
def byR (S : List Slt) (dp : Bool) (kd : Int) (ws : List Int) : ByteArray × Int × Bool :=
  if kd = 3 ∧ 1 ≤ ws.length then byH ws else if kd = 4 ∧ ws.length = 3 then byC S dp ws else (⟨#[]⟩, 0, false)
/-- What bytes answers. -/
def ByP (w : World) (x : ByteArray × Int × Bool) (e : Ending) (w' : World) : Prop := e = .returned (.tuple #[.string x.1, .int .i64 x.2.1, .bool x.2.2]) ∧ Below w.heap.size w w'

section
variable {w : World} {r : DR} {SA : Option Addr} {sm sc : Nat} {S : List Slt} {dp : Bool} {A : Option Addr} {n c : Nat} {ws : List Int}
set_option maxRecDepth 100000 in
set_option maxRecDepth 100000 in
set_option maxHeartbeats 4000000 in
theorem bytes12_H (h : Zs .u64 w A n c ws) (hn : n ≤ 1000) (h1 : 1 ≤ n) :
    Calls Tryz.prog 73 #[.agg #[.int .i64 r.y.at_, .slice r.y.A r.y.n r.y.c, .int .i64 r.o.at_, .slice r.o.A r.o.n r.o.c, .int .i64 r.size, .int .i64 r.mark, .slice r.F r.fm r.fc, .slice r.R r.rm r.rc, .slice r.H r.hm r.hc, .slice SA sm sc, .bool dp], .int .i64 3, .slice A n c] w (ByP w (byH ws)) := by
  obtain ⟨wa, hwa⟩ : ∃ wa, wa = w.alloc (.cells #[.int .i64 r.y.at_, .slice r.y.A r.y.n r.y.c, .int .i64 r.o.at_, .slice r.o.A r.o.n r.o.c, .int .i64 r.size, .int .i64 r.mark, .slice r.F r.fm r.fc, .slice r.R r.rm r.rc, .slice r.H r.hm r.hc, .slice SA sm sc, .bool dp] 72) := ⟨_, rfl⟩
  have hba : Below w.heap.size w wa := by rw [hwa]; exact (Below.refl _ w).alloc (Nat.le_refl _) _
  have hz := h.below hba
  obtain ⟨b, o, hA, _⟩ := hz.some (by omega)
  subst hA
  have y0 : wa.cell? ⟨b, o, none⟩ = some (.int .u64 (ws.getD 0 0)) := by simpa using hz.at_ (j := 0) (by omega)
  have hx := wf_u (hz.wfAt (j := 0) (by omega))
  have HS := Lib.hid (small12_any (ws.getD 0 0) 64 hx (by omega) wa)
  have hcm : c ≤ 9223372036854775807 := hz.cm
  have hnc := hz.nc
  have hd1 : decide ((1 : Int) ≤ (n : Int)) = true := decide_eq_true (by omega)
  have HB := Lib.hid hba
  have hcs := sml_cases (ws.getD 0 0) 64
  have HR : Hid (byH ws = byH ws) := Lib.hid rfl
  unfold byH at HR ⊢
  have HZ := Lib.hid hz
  clear h hba hz
  generalize ws.getD 0 0 = x at *
  rcases hcs with ⟨h2, e⟩ | ⟨h2, e⟩
  · rw [e] at HS
    rw [if_pos (by rw [e]; omega)]
    clear HR e
    go_enter Tryz.func73, Tryz.ntmps73
    go_upto_region 1 with fail
    rw [← hwa]
    clear hwa
    go_wp2_with (go_at_call 100; (with_reducible refine HS.out.mono ?_); rintro e w1 ⟨rfl, rfl⟩)
    go_ret3
    exact ⟨rfl, HB.out⟩
  · rw [e] at HS HR
    rw [e, if_neg (by omega)]
    obtain ⟨k, rfl⟩ : ∃ k : Nat, x = (k : Int) := ⟨x.toNat, by omega⟩
    rw [show ((k : Int)).toNat = k by omega]
    have hd2 : decide ((k : Int) < 0) = false := decide_eq_false (by omega)
    clear HR e
    by_cases hc1 : c = 1
    · have hpart := HZ.out.part (lo := 1) (m := n - 1) (o' := o) (by omega) (.inl (by omega))
      rw [List.take_of_length_le (by rw [List.length_drop, HZ.out.len]; exact Nat.le_refl _)] at hpart
      have hn1 : n = 1 := by omega
      subst hc1 hn1
      cases hpk : pkO (List.drop 1 ws) k with
      | none =>
        have HP := Lib.hid (packed12_none hpart k (by omega) (by omega) hpk)
        have HBB := Lib.hid (fun w2 (hb2 : Below wa.heap.size wa w2) => HB.out.trans (hb2.mono HB.out.size))
        clear hx
        clear hpart HZ hpk
        go_enter Tryz.func73, Tryz.ntmps73
        go_upto_region 1 with fail
        rw [← hwa]
        clear hwa
        go_wp2_with (first
          | (go_at_call 100; (with_reducible refine HS.out.mono ?_); rintro e w1 ⟨rfl, rfl⟩)
          | (go_at_call 101; (with_reducible refine HP.out.mono ?_); rintro e w2 ⟨rfl, hb2⟩; replace hb2 := Lib.hid hb2))
        go_ret3
        exact ⟨rfl, HBB.out _ hb2.out⟩
      | some l =>
        have HP := Lib.hid (packed12_some hpart k (by omega) (by omega) hpk)
        have HBB := Lib.hid (fun w2 (hb2 : Below wa.heap.size wa w2) => HB.out.trans (hb2.mono HB.out.size))
        clear hx
        clear hpart HZ hpk
        go_enter Tryz.func73, Tryz.ntmps73
        go_upto_region 1 with fail
        rw [← hwa]
        clear hwa
        go_wp2_with (first
          | (go_at_call 100; (with_reducible refine HS.out.mono ?_); rintro e w1 ⟨rfl, rfl⟩)
          | (go_at_call 101; (with_reducible refine HP.out.mono ?_); rintro e w2 ⟨rfl, hb2⟩; replace hb2 := Lib.hid hb2))
        go_ret3
        exact ⟨rfl, HBB.out _ hb2.out⟩
    · have hpart := HZ.out.part (lo := 1) (m := n - 1) (o' := o + 1) (by omega) (.inr rfl)
      rw [List.take_of_length_le (by rw [List.length_drop, HZ.out.len]; exact Nat.le_refl _)] at hpart
      cases hpk : pkO (List.drop 1 ws) k with
      | none =>
        have HP := Lib.hid (packed12_none hpart k (by omega) (by omega) hpk)
        have HBB := Lib.hid (fun w2 (hb2 : Below wa.heap.size wa w2) => HB.out.trans (hb2.mono HB.out.size))
        clear hx
        clear hpart HZ hpk
        go_enter Tryz.func73, Tryz.ntmps73
        go_upto_region 1 with fail
        rw [← hwa]
        clear hwa
        go_wp2_with (first
          | (go_at_call 100; (with_reducible refine HS.out.mono ?_); rintro e w1 ⟨rfl, rfl⟩)
          | (go_at_call 101; (with_reducible refine HP.out.mono ?_); rintro e w2 ⟨rfl, hb2⟩; replace hb2 := Lib.hid hb2))
        go_ret3
        exact ⟨rfl, HBB.out _ hb2.out⟩
      | some l =>
        have HP := Lib.hid (packed12_some hpart k (by omega) (by omega) hpk)
        have HBB := Lib.hid (fun w2 (hb2 : Below wa.heap.size wa w2) => HB.out.trans (hb2.mono HB.out.size))
        clear hx
        clear hpart HZ hpk
        go_enter Tryz.func73, Tryz.ntmps73
        go_upto_region 1 with fail
        rw [← hwa]
        clear hwa
        go_wp2_with (first
          | (go_at_call 100; (with_reducible refine HS.out.mono ?_); rintro e w1 ⟨rfl, rfl⟩)
          | (go_at_call 101; (with_reducible refine HP.out.mono ?_); rintro e w2 ⟨rfl, hb2⟩; replace hb2 := Lib.hid hb2))
        go_ret3
        exact ⟨rfl, HBB.out _ hb2.out⟩
end
end Go.Proofs.YtejmmjedognaaaaGreat
