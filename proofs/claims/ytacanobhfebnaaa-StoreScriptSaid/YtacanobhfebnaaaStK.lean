/-
  THE LAWS OF THE STORE: what every program answers that is one; the law StoreNone.
-/
import Derived.Test.YtacanobhfebnaaaStJ
namespace Go.Proofs.Ytacanobhfebnaaa
open Go.RowKit
open St

/-- A store that lies above what there was. -/
def StQ (B w : World) (S : Nat) (L : List Slt) : Prop := ∃ K, Str w K S L ∧ Below B.heap.size B w ∧ ∀ k, K k → B.heap.size ≤ k
set_option maxRecDepth 100000 in
theorem StP.stq {B w w' : World} {K : Nat → Prop} {S : Nat} {L' : List Slt} (h : StP w K S L' w') (hb : Below B.heap.size B w) (hk : ∀ k, K k → B.heap.size ≤ k) : StQ B w' S L' := by
  obtain ⟨K', h1, h2, h3⟩ := h
  refine ⟨K', h1, hb.trans (h2.toBelow hk hb.size), fun k hk' => ?_⟩
  rcases h3 k hk' with h4 | h4
  · exact hk k h4
  · exact Nat.le_trans hb.size h4
set_option maxRecDepth 100000 in
theorem StQ.below {B w : World} {S : Nat} {L : List Slt} (h : StQ B w S L) : Below B.heap.size B w := h.choose_spec.2.1
set_option maxRecDepth 100000 in
theorem StQ.drewN {B w : World} {S : Nat} {L : List Slt} (h : StQ B w S L) (q : Nat) : StQ B (w.drewN q) S L := by
  obtain ⟨K, h1, h2, h3⟩ := h
  exact ⟨K, h1.drewN q, ⟨h2.os, h2.tape, h2.output, h2.size, h2.block⟩, h3⟩
set_option maxRecDepth 100000 in
theorem newQ (w : World) :
    Calls Try.prog 9 #[] w fun r w' => r = .returned (.pointer (some ⟨w.heap.size, 0, none⟩)) ∧ StQ w w' w.heap.size [] := by
  refine (new_any w).mono ?_
  rintro r w' ⟨rfl, h1, h2, _⟩
  exact ⟨rfl, _, h1, h2, fun k hk => by rw [hk]; exact Nat.le_refl _⟩
set_option maxRecDepth 100000 in
theorem newQ2 (B w : World) (hb : Below B.heap.size B w) :
    Calls Try.prog 9 #[] w fun r w' => r = .returned (.pointer (some ⟨w.heap.size, 0, none⟩)) ∧ StQ B w' w.heap.size [] := by
  refine (new_any w).mono ?_
  rintro r w' ⟨rfl, h1, h2, _⟩
  exact ⟨rfl, _, h1, hb.trans (h2.mono hb.size), fun k hk => by rw [hk]; exact hb.size⟩
set_option maxRecDepth 100000 in
theorem StQ.put {B w : World} {S : Nat} {L : List Slt} {T : Int} (h : StQ B w S L) (hT : Bd T L) (hT2 : T ≤ 1000) (b : ByteArray) (hb : b.size ≤ 400) {x y : Int} {L' : List Slt} (hx : (fr L : Int) = x) (hL : putL L b = L') (hy : (gt L' (fr L)).st = y) :
    Calls Try.prog 10 #[.pointer (some ⟨S, 0, none⟩), .string b] w fun r w' => r = .returned (.tuple #[.int .i64 x, .int .i64 y, .int .i64 0]) ∧ StQ B w' S L' := by
  obtain ⟨K, h1, h2, h3⟩ := h
  subst hx hL hy
  refine (put_any h1 hT hT2 b hb).mono ?_
  rintro r w' ⟨rfl, h4⟩
  exact ⟨rfl, h4.stq h2 h3⟩
set_option maxRecDepth 100000 in
theorem StQ.inc {B w : World} {S : Nat} {L : List Slt} {T : Int} (h : StQ B w S L) (hT : Bd T L) (hT2 : T ≤ 1000) (slot stamp : Int) {x : Int} {L' : List Slt} (hx : err L slot stamp = x) (hL : (if x = 0 then cntL L slot.toNat 1 else L) = L') :
    Calls Try.prog 13 #[.pointer (some ⟨S, 0, none⟩), .int .i64 slot, .int .i64 stamp] w fun r w' => r = .returned (.int .i64 x) ∧ StQ B w' S L' := by
  obtain ⟨K, h1, h2, h3⟩ := h
  subst hx hL
  refine (inc_any h1 hT hT2 slot stamp).mono ?_
  rintro r w' ⟨rfl, h4⟩
  exact ⟨rfl, h4.stq h2 h3⟩
set_option maxRecDepth 100000 in
theorem StQ.dec {B w : World} {S : Nat} {L : List Slt} {T : Int} (h : StQ B w S L) (hT : Bd T L) (hT2 : T ≤ 1000) (slot stamp : Int) {x : Int} {L' : List Slt} (hx : err L slot stamp = x) (hL : (if x = 0 then cntL L slot.toNat (-1) else L) = L') :
    Calls Try.prog 15 #[.pointer (some ⟨S, 0, none⟩), .int .i64 slot, .int .i64 stamp] w fun r w' => r = .returned (.int .i64 x) ∧ StQ B w' S L' := by
  obtain ⟨K, h1, h2, h3⟩ := h
  subst hx hL
  refine (dec_any h1 hT hT2 slot stamp).mono ?_
  rintro r w' ⟨rfl, h4⟩
  exact ⟨rfl, h4.stq h2 h3⟩
set_option maxRecDepth 100000 in
theorem StQ.get {B w : World} {S : Nat} {L : List Slt} {T : Int} (h : StQ B w S L) (hT : Bd T L) (hT2 : T ≤ 1000) (slot stamp : Int) {x : Int} {t : ByteArray} (hx : err L slot stamp = x) (ht : getL L slot stamp = t) :
    Calls Try.prog 16 #[.pointer (some ⟨S, 0, none⟩), .int .i64 slot, .int .i64 stamp] w fun r w' => r = .returned (.tuple #[.string t, .int .i64 x]) ∧ w = w' := by
  obtain ⟨K, h1, h2, h3⟩ := h
  subst hx ht
  exact getS_any h1 (by have := hT.len; omega) slot stamp
set_option maxRecDepth 100000 in
theorem StQ.bytes {B w : World} {S : Nat} {L : List Slt} (h : StQ B w S L) {x : Int} (hx : (sumb L : Int) = x) :
    Calls Try.prog 19 #[.pointer (some ⟨S, 0, none⟩)] w fun r w' => r = .returned (.int .i64 x) ∧ w = w' := by
  obtain ⟨K, h1, h2, h3⟩ := h
  subst hx
  exact bytesS_any h1
set_option maxRecDepth 100000 in
theorem StQ.len {B w : World} {S : Nat} {L : List Slt} {T : Int} (h : StQ B w S L) (hT : Bd T L) (hT2 : T ≤ 1000) {x : Int} (hx : (usd L : Int) = x) :
    Calls Try.prog 21 #[.pointer (some ⟨S, 0, none⟩)] w fun r w' => r = .returned (.int .i64 x) ∧ StQ B w' S L := by
  have hq := h
  obtain ⟨K, h1, h2, h3⟩ := h
  subst hx
  refine (lenS_any h1 (by have := hT.len; omega)).mono ?_
  rintro r w' ⟨rfl, q, rfl⟩
  exact ⟨rfl, hq.drewN q⟩

set_option maxRecDepth 100000 in
theorem bd1 (s : Slt) (h1 : 0 ≤ s.st ∧ s.st ≤ 5) (h2 : s.ct ≤ 5) (h3 : s.tx.size ≤ 400) (h4 : s.ct = 0 → s.tx = ⟨#[]⟩) : Bd 5 [s] := by
  have key : ∀ i, i < [s].length → gt [s] i = s := fun i hi => by
    have : i = 0 := by simpa using hi
    subst this
    rfl
  refine ⟨by simp, fun i hi => ?_, fun i hi => ?_, fun i hi => ?_, fun i hi => ?_⟩ <;> rw [key i hi]
  · exact h1
  · exact h2
  · exact h3
  · exact h4

set_option maxRecDepth 100000 in
set_option maxRecDepth 100000 in
set_option maxHeartbeats 4000000 in
theorem awake10 (W : World) :
    Calls Try.prog 8 #[] W fun r w' => r = .returned (.bool true) ∧ Below W.heap.size W w' := by
  have b0 : Bd 5 [] := Bd.nil.mono (by omega)
  have b1 : Bd 5 [⟨1, 1, ⟨#[97]⟩⟩] := bd1 _ (by simp) (by simp) (by simp; decide) (by simp)
  have b2 : Bd 5 [⟨1, 0, ⟨#[]⟩⟩] := bd1 _ (by simp) (by simp) (by decide) (by simp)
  have b3 : Bd 5 [⟨2, 1, ⟨#[98]⟩⟩] := bd1 _ (by simp) (by simp) (by simp; decide) (by simp)
  have HN := Lib.hid (newQ W)
  have P1 := Lib.hid (fun (w : World) (h : StQ W w W.heap.size []) => h.put b0 (by omega) ⟨#[97]⟩ (by decide) (x := 0) (y := 1) (L' := [⟨1, 1, ⟨#[97]⟩⟩]) rfl rfl rfl)
  have P2 := Lib.hid (fun (w : World) (h : StQ W w W.heap.size [⟨1, 1, ⟨#[97]⟩⟩]) => h.dec b1 (by omega) 0 1 (x := 0) (L' := [⟨1, 0, ⟨#[]⟩⟩]) rfl rfl)
  have P3 := Lib.hid (fun (w : World) (h : StQ W w W.heap.size [⟨1, 0, ⟨#[]⟩⟩]) => h.put b2 (by omega) ⟨#[98]⟩ (by decide) (x := 0) (y := 2) (L' := [⟨2, 1, ⟨#[98]⟩⟩]) rfl rfl rfl)
  have P4 := Lib.hid (fun (w : World) (h : StQ W w W.heap.size [⟨2, 1, ⟨#[98]⟩⟩]) => h.get b3 (by omega) 0 1 (x := 6) (t := ⟨#[]⟩) rfl rfl)
  have P5 := Lib.hid (fun (w : World) (h : StQ W w W.heap.size [⟨2, 1, ⟨#[98]⟩⟩]) => h.get b3 (by omega) 0 2 (x := 0) (t := ⟨#[98]⟩) rfl rfl)
  have P6 := Lib.hid (fun (w : World) (h : StQ W w W.heap.size [⟨2, 1, ⟨#[98]⟩⟩]) => h.len b3 (by omega) (x := 1) rfl)
  clear b0 b1 b2 b3
  go_enter Try.func8, Try.ntmps8
  go_wp2_with (first
    | (go_at_call 9; (with_reducible refine HN.out.mono ?_); rintro r w1 ⟨rfl, q1⟩; replace q1 := Lib.hid q1)
    | (go_at_call 10; first | ((with_reducible refine (P1.out _ q1.out).mono ?_); rintro r w2 ⟨rfl, q2⟩; replace q2 := Lib.hid q2; clear q1 P1) | ((with_reducible refine (P3.out _ q3.out).mono ?_); rintro r w4 ⟨rfl, q4⟩; replace q4 := Lib.hid q4))
    | (go_at_call 15; (with_reducible refine (P2.out _ q2.out).mono ?_); rintro r w3 ⟨rfl, q3⟩; replace q3 := Lib.hid q3)
    | (go_at_call 16; first | ((with_reducible refine (P4.out _ q4.out).mono ?_); rintro r w5 ⟨rfl, rfl⟩) | ((with_reducible refine (P5.out _ q4.out).mono ?_); rintro r w5 ⟨rfl, rfl⟩))
    | (go_at_call 21; (with_reducible refine (P6.out _ q4.out).mono ?_); rintro r w6 ⟨rfl, q6⟩; replace q6 := Lib.hid q6))
  go_ret
  exact ⟨rfl, q6.out.below⟩

set_option maxRecDepth 100000 in
set_option maxRecDepth 100000 in
set_option maxHeartbeats 4000000 in
theorem storeNone_walk (n : Int) (W : World) :
    Calls Try.prog 6 #[.int .i64 n] W fun r w' => r = .returned (.bool true) ∧ Below W.heap.size W w' := by
  go_enter Try.func6, Try.ntmps6
  go_wp2_with (first
    | (go_at_call 10; (with_reducible refine (put_nil _ _).mono ?_); rintro r w1 ⟨rfl, rfl⟩)
    | (go_at_call 16; (with_reducible refine (get_nil _ _ _).mono ?_); rintro r w1 ⟨rfl, rfl⟩)
    | (go_at_call 13; (with_reducible refine (inc_nil _ _ _).mono ?_); rintro r w1 ⟨rfl, rfl⟩)
    | (go_at_call 15; (with_reducible refine (dec_nil _ _ _).mono ?_); rintro r w1 ⟨rfl, rfl⟩)
    | (go_at_call 18; (with_reducible refine (slots_nil _).mono ?_); rintro r w1 ⟨rfl, rfl⟩)
    | (go_at_call 19; (with_reducible refine (bytes_nil _).mono ?_); rintro r w1 ⟨rfl, rfl⟩)
    | (go_at_call 21; (with_reducible refine (len_nil _).mono ?_); rintro r w1 ⟨rfl, rfl⟩)
    | (go_at_call 8; (with_reducible refine (awake10 _).mono ?_); rintro r w1 ⟨rfl, hb⟩))
  go_ret
  exact ⟨rfl, hb⟩
end Go.Proofs.Ytacanobhfebnaaa
