/-
  SameSlots, OverSlots of slots.
-/
import Derived.Test.YtacanobhfebnaaaStM
import Derived.Laws.StructEq
namespace Go.Proofs.Ytacanobhfebnaaa
open Go.RowKit
open St

set_option maxRecDepth 100000 in
theorem eqF_cons {P : Program} {w : World} (d : Nat) (xs ys : Array Value) (f : Field) (fs : List Field) (a b : Value) (hn : f.name ≠ "_") (h1 : (part f.type xs f.offset).run P w = .ok a w) (h2 : (part f.type ys f.offset).run P w = .ok b w) (h3 : (Op.equalIn d f.type a b).run P w = .ok true w) :
    (Op.eqFields d xs ys (f :: fs)).run P w = (Op.eqFields d xs ys fs).run P w := by
  simp [Op.eqFields, hn, h1, h2, h3]
set_option maxRecDepth 100000 in
theorem slot_fields : ((Try.prog.fieldsOf 46).toList.map fun f => (f.type, f.offset, f.name == "_")) = [(3, 0, false), (3, 1, false), (9, 2, false)] := by kernel_rfl
set_option maxRecDepth 100000 in
theorem slot_fields' : ∃ f0 f1 f2 : Field, (Try.prog.fieldsOf 46).toList = [f0, f1, f2] ∧ (f0.type = 3 ∧ f0.offset = 0 ∧ f0.name ≠ "_") ∧ (f1.type = 3 ∧ f1.offset = 1 ∧ f1.name ≠ "_") ∧ (f2.type = 9 ∧ f2.offset = 2 ∧ f2.name ≠ "_") := by
  have h := slot_fields
  generalize (Try.prog.fieldsOf 46).toList = l at h ⊢
  match l, h with
  | [], h => simp at h
  | [_], h => simp at h
  | [_, _], h => simp at h
  | [f0, f1, f2], h =>
    simp only [List.map_cons, List.map_nil, List.cons.injEq, Prod.mk.injEq, beq_eq_false_iff_ne, and_true] at h
    exact ⟨f0, f1, f2, rfl, h.1, h.2.1, h.2.2⟩
  | _ :: _ :: _ :: _ :: _, h => simp at h
set_option maxRecDepth 100000 in
theorem slot_neq (w : World) (x y : Int) (t : ByteArray) : (binOp .neq 46 (.agg #[.int .i64 x, .int .i64 y, .string t]) (.agg #[.int .i64 x, .int .i64 y, .string t])).run Try.prog w = .ok (.bool false) w := by
  have ht : Try.prog.underlying 46 = some (.struct (Try.prog.fieldsOf 46)) := by kernel_rfl
  have hp : Try.prog.stoodInHeld 46 = false := by kernel_rfl
  obtain ⟨f0, f1, f2, hf, ⟨a1, a2, a3⟩, ⟨b1, b2, b3⟩, ⟨c1, c2, c3⟩⟩ := slot_fields'
  rw [run_neq_struct, run_equalIn_agg w 9999 46 _ _ ht hp, hf]
  have p0 : ∀ (u v z : Value) (w : World), (part 3 #[u, v, z] 0).run Try.prog w = .ok u w := fun _ _ _ _ => by kernel_rfl
  have p1 : ∀ (u v z : Value) (w : World), (part 3 #[u, v, z] 1).run Try.prog w = .ok v w := fun _ _ _ _ => by kernel_rfl
  have p2 : ∀ (u v z : Value) (w : World), (part 9 #[u, v, z] 2).run Try.prog w = .ok z w := fun _ _ _ _ => by kernel_rfl
  have us : Try.prog.underlying 9 = some .string := by kernel_rfl
  have ui : Try.prog.underlying 3 = some (.int .i64) := by kernel_rfl
  rw [eqF_cons 9999 _ _ f0 _ (.int .i64 x) (.int .i64 x) a3 (by rw [a1, a2]; exact p0 _ _ _ _) (by rw [a1, a2]; exact p0 _ _ _ _) (by rw [a1, run_equalIn_int w 9998 _ .i64 .i64 x x ui]; simp),
    eqF_cons 9999 _ _ f1 _ (.int .i64 y) (.int .i64 y) b3 (by rw [b1, b2]; exact p1 _ _ _ _) (by rw [b1, b2]; exact p1 _ _ _ _) (by rw [b1, run_equalIn_int w 9998 _ .i64 .i64 y y ui]; simp),
    eqF_cons 9999 _ _ f2 _ (.string t) (.string t) c3 (by rw [c1, c2]; exact p2 _ _ _ _) (by rw [c1, c2]; exact p2 _ _ _ _) (by rw [c1, run_equalIn_string w 9998 _ t t us]; simp)]
  simp [Op.eqFields, Result.andThen]

set_option maxRecDepth 100000 in
set_option maxRecDepth 100000 in
set_option maxHeartbeats 4000000 in
theorem sameSlots_any {w : World} {A B : Option Addr} {n c c' : Nat} {L : List Slt} (h : Row3 w A n c L) (h' : Row3 w B n c' L) (hn : n ≤ 100000) :
    Calls Try.prog 23 #[.slice A n c, .slice B n c'] w fun r w' => r = .returned (.bool true) ∧ ∃ q, w' = w.drewN q := by
  have qn := slot_neq
  have hm : Try.prog.eqGuardType Try.prog.depth 46 = false := by kernel_rfl
  have hb := h.bound
  have hb' := h'.bound
  go_enter Try.func23, Try.ntmps23
  go_wp2_with fail
  go_loopw [5] (fun x w' => ∃ k q : Nat, k ≤ n ∧ x = .int .i64 (k : Int) ∧ w' = w.drewN q) (fun x _ => n - (intOf x).toNat)
  case atStart => exact ⟨0, 0, Nat.zero_le _, rfl, rfl⟩
  case round =>
    obtain ⟨k, q, hk, rfl, rfl⟩ := hrel
    by_cases hkn : k < n
    · obtain ⟨g, rfl, _⟩ := h.some (by omega)
      obtain ⟨g', rfl, _⟩ := h'.some (by omega)
      obtain ⟨y0, y1, y2⟩ := h.el hkn
      obtain ⟨z0, z1, z2⟩ := h'.el hkn
      have hd1 : decide ((k : Int) < (n : Int)) = true := decide_eq_true (by omega)
      clear h h'
      go_wp2_with fail
      go_quiet (fail)
      go_wp2_with fail
      exact ⟨⟨k + 1, q + _, by omega, rfl, rfl⟩, by simp [intOf]; omega⟩
    · have e : k = n := by omega
      subst e
      have hd1 : decide ((k : Int) < (k : Int)) = false := decide_eq_false (by omega)
      clear h h'
      go_wp2
      go_ret
      exact ⟨rfl, _, rfl⟩

/-- The row itself. -/
def kA (A : Option Addr) (k : Nat) : Prop := A.map (·.block) = some k
set_option maxRecDepth 100000 in
set_option maxRecDepth 100000 in
set_option maxHeartbeats 4000000 in
theorem overSlots_any {w : World} {A : Option Addr} {n c : Nat} {L : List Slt} (h : Row3 w A n c L) (hn : n ≤ 90000) :
    Calls Try.prog 24 #[.slice A n c] w fun r w' => r = .returned (.tuple #[]) ∧ Chg (kA A) w w' := by
  have hb := h.bound
  go_enter Try.func24, Try.ntmps24
  go_wp2_with fail
  go_loopw [2] (fun x w' => ∃ (k : Nat) (M : List Slt), k ≤ n ∧ x = .int .i64 (k : Int) ∧ Row3 w' A n c M ∧ Chg (kA A) w w') (fun x _ => n - (intOf x).toNat)
  case atStart => exact ⟨0, L, Nat.zero_le _, rfl, h, Chg.refl _ _⟩
  case round =>
    clear h
    obtain ⟨k, M, hk, rfl, h, hc⟩ := hrel
    have hlen := h.len
    have HC := Lib.hid hc
    clear hc
    by_cases hkn : k < n
    · obtain ⟨g, rfl, _⟩ := h.some (by omega)
      obtain ⟨y0, y1, y2⟩ := h.el hkn
      have f0 := h.fz (k * 3)
      have f1 := h.fz (k * 3 + 1)
      have f2 := h.fz (k * 3 + 2)
      have hd1 : decide ((k : Int) < (n : Int)) = true := decide_eq_true (by omega)
      have P := Lib.hid (((h.put0 hkn (-9)).put1 hkn 0).put2 hkn ⟨#[]⟩)
      clear h
      go_wp2_with fail
      exact ⟨⟨k + 1, _, by omega, rfl, P.out, ((HC.out.setCell (p := ⟨g, k * 3, none⟩) (.inl rfl) _).setCell (p := ⟨g, k * 3 + 1, none⟩) (.inl rfl) _).setCell (p := ⟨g, k * 3 + 2, none⟩) (.inl rfl) _⟩, by simp [intOf]; omega⟩
    · have e : k = n := by omega
      subst e
      have hd1 : decide ((k : Int) < (k : Int)) = false := decide_eq_false (by omega)
      have hb2 : Below wr.heap.size wr (wr.alloc (.cells #[.int .i64 (-9), .int .i64 0, .string ⟨#[]⟩] 46)) := (Below.refl _ _).alloc (Nat.le_refl _) _
      have h2 := h.chg (Chg.below (K := fun _ => False) hb2) (fun _ _ h => h)
      obtain ⟨A2, c2, w2, hr2, _, hg3, _⟩ := h2.app (by omega) wr.heap.size 1 1 [⟨-9, 0, ⟨#[]⟩⟩] rfl (by omega) (by
        intro j u hu
        rw [cell_of_row _ wr.heap.size j _ _ (0, 0) (heap_alloc_new wr _)]
        simpa [scs] using hu) 28
      have HR := Lib.hid hr2
      have HD := Lib.hid ((HC.out.trans (Chg.below (K := fun _ => False) hb2) (fun _ _ h => h.elim)).trans (Chg.grown hg3 (K := kA A) (fun k hk => hk)) (fun _ _ h => h))
      clear h h2 hr2 hg3 hb2
      go_wp2_with (at_builtin; refine wpApp rfl _ _ _ rfl _ _ _ rfl rfl HR.out ?_)
      go_end0
      exact ⟨rfl, HD.out⟩

set_option maxRecDepth 100000 in
theorem num_any (x : Int) (w : World) :
    Calls Try.prog 12 #[.int .i64 x] w fun r w' => r = .returned (.int .i64 x) ∧ w = w' := by
  go_enter Try.func12, Try.ntmps12
  go_wp2
  go_ret
  exact ⟨rfl, rfl⟩
end Go.Proofs.Ytacanobhfebnaaa
