/-
  PACKAGE arena: what every program answers that is one; the law ArenaNone.
-/
import Derived.Test.YtmgikdkcdihdlaaAnD
namespace Go.Proofs.Ytmgikdkcdihdlaa
open Go.RowKit
open An

/-- An arena that was made since. -/
structure AnQ (B w : World) (S b : Nat) (s : Ars) : Prop where
  a : Arn w S b s
  be : Below B.heap.size B w
  hS : B.heap.size ≤ S
  hb : B.heap.size ≤ b
namespace AnQ
variable {B w w' : World} {S b : Nat} {s s' : Ars}
set_option maxRecDepth 100000 in
theorem of (h : AnQ B w S b s) (hp : AnP w S b s' w') : AnQ B w' S b s' :=
  ⟨hp.1, h.be.trans (hp.2.toBelow (fun k hk => by rcases hk with rfl | rfl; exact h.hS; exact h.hb) h.be.size), h.hS, h.hb⟩
set_option maxRecDepth 100000 in
theorem drewN (h : AnQ B w S b s) (q : Nat) : AnQ B (w.drewN q) S b s := ⟨h.a.drewN q, ⟨h.be.os, h.be.tape, h.be.output, h.be.size, h.be.block⟩, h.hS, h.hb⟩
set_option maxRecDepth 100000 in
theorem below (h : AnQ B w S b s) (hb : Below w.heap.size w w') : AnQ B w' S b s := ⟨h.a.below hb, h.be.trans (hb.mono h.be.size), h.hS, h.hb⟩
set_option maxRecDepth 100000 in
theorem take (h : AnQ B w S b s) {T : Int} (hT : Ok T s) (hT2 : T ≤ 1000) (n : Int) {x y : Int} (hx : takeO s n = x) (hy : wr s n 1 = y) (hs : takeS s n = s') :
    Calls Try.prog 9 #[.pointer (some ⟨S, 0, none⟩), .int .i64 n] w fun r w' => r = .returned (.tuple #[.int .i64 x, .int .i64 y]) ∧ AnQ B w' S b s' := by
  subst hx hy hs
  exact (takeA_any h.a hT hT2 n).mono fun r w' hr => ⟨hr.1, h.of hr.2⟩
set_option maxRecDepth 100000 in
theorem give (h : AnQ B w S b s) {T : Int} (hT : Ok T s) (hT2 : T ≤ 1000) (k : Int) (hk : (Lit.int .i64 k).wf = true) {x : Bool} (hx : (fnd k s.L).isSome = x) (hs : giveS s k = s') :
    Calls Try.prog 12 #[.pointer (some ⟨S, 0, none⟩), .int .i64 k] w fun r w' => r = .returned (.bool x) ∧ AnQ B w' S b s' := by
  subst hx hs
  exact (giveA_any h.a hT hT2 k hk).mono fun r w' hr => ⟨hr.1, h.of hr.2⟩
set_option maxRecDepth 100000 in
theorem used (h : AnQ B w S b s) {T : Int} (hT : Ok T s) (hT2 : T ≤ 1000) {x : Int} (hx : sumn s.L + s.chg = x) :
    Calls Try.prog 18 #[.pointer (some ⟨S, 0, none⟩)] w fun r w' => r = .returned (.int .i64 x) ∧ AnQ B w' S b s := by
  subst hx
  refine (used_any h.a hT hT2).mono fun r w' hr => ?_
  obtain ⟨rfl, q, rfl⟩ := hr
  exact ⟨rfl, h.drewN q⟩
end AnQ
set_option maxRecDepth 100000 in
theorem newQA (n : Int) (hn : 0 ≤ n ∧ n ≤ 16777216) (w : World) :
    Calls Try.prog 7 #[.int .i64 n] w fun r w' => r = .returned (.pointer (some ⟨w.heap.size + 1, 0, none⟩)) ∧ AnQ w w' (w.heap.size + 1) w.heap.size ⟨n, 0, 0, []⟩ := by
  refine (newA_any n hn w).mono fun r w' hr => ?_
  obtain ⟨rfl, h1, h2, h3⟩ := hr
  exact ⟨rfl, h1, h2, by omega, Nat.le_refl _⟩

set_option maxRecDepth 100000 in
set_option maxRecDepth 100000 in
set_option maxHeartbeats 4000000 in
theorem awake11 (W : World) :
    Calls Try.prog 6 #[] W fun r w' => r = .returned (.bool true) ∧ Below W.heap.size W w' := by
  have k0 : Ok 5 ⟨10, 0, 0, []⟩ := (Ok.new (by omega)).mono (by omega)
  have k01 : Ok 1 ⟨10, 5, 0, [(1, 4)]⟩ := ((Ok.new (b := 10) (by omega)).take 4 : Ok (0 + 1) (takeS ⟨10, 0, 0, []⟩ 4))
  have k1 : Ok 5 ⟨10, 5, 0, [(1, 4)]⟩ := k01.mono (by omega)
  have k02 : Ok 2 ⟨10, 12, 0, [(1, 4), (6, 6)]⟩ := (k01.take 6 : Ok (1 + 1) (takeS ⟨10, 5, 0, [(1, 4)]⟩ 6))
  have k2 : Ok 5 ⟨10, 12, 0, [(1, 4), (6, 6)]⟩ := k02.mono (by omega)
  have k3 : Ok 5 ⟨10, 12, 0, [(6, 6)]⟩ := (k2.give 1 : Ok 5 (giveS ⟨10, 12, 0, [(1, 4), (6, 6)]⟩ 1))
  have HN := Lib.hid (newQA 10 (by omega) W)
  generalize W.heap.size + 1 = S at HN
  generalize hb : W.heap.size = b at HN
  replace hb := Lib.hid hb
  have P1 := Lib.hid (fun (w : World) (h : AnQ W w S b ⟨10, 0, 0, []⟩) => h.take k0 (by omega) 4 (x := 1) (y := 0) (s' := ⟨10, 5, 0, [(1, 4)]⟩) rfl rfl rfl)
  have P2 := Lib.hid (fun (w : World) (h : AnQ W w S b ⟨10, 5, 0, [(1, 4)]⟩) => h.take k1 (by omega) 7 (x := 0) (y := 7) (s' := ⟨10, 5, 0, [(1, 4)]⟩) rfl rfl rfl)
  have P3 := Lib.hid (fun (w : World) (h : AnQ W w S b ⟨10, 5, 0, [(1, 4)]⟩) => h.take k1 (by omega) 6 (x := 6) (y := 0) (s' := ⟨10, 12, 0, [(1, 4), (6, 6)]⟩) rfl rfl rfl)
  have P4 := Lib.hid (fun (w : World) (h : AnQ W w S b ⟨10, 12, 0, [(1, 4), (6, 6)]⟩) => h.used k2 (by omega) (x := 10) rfl)
  have P5 := Lib.hid (fun (w : World) (h : AnQ W w S b ⟨10, 12, 0, [(1, 4), (6, 6)]⟩) => h.give k2 (by omega) 1 (WalkArith.wf_i64 (by omega)) (x := true) (s' := ⟨10, 12, 0, [(6, 6)]⟩) rfl rfl)
  have P6 := Lib.hid (fun (w : World) (h : AnQ W w S b ⟨10, 12, 0, [(6, 6)]⟩) => h.give k3 (by omega) 1 (WalkArith.wf_i64 (by omega)) (x := false) (s' := ⟨10, 12, 0, [(6, 6)]⟩) rfl rfl)
  have P7 := Lib.hid (fun (w : World) => newA_none (-1) (by omega) w)
  clear k0 k01 k02 k1 k2 k3
  go_enter Try.func6, Try.ntmps6
  go_wp2_with (first
    | (go_at_call 7; first | ((with_reducible refine HN.out.mono ?_); rintro r w1 ⟨rfl, q1⟩; replace q1 := Lib.hid q1; clear HN) | ((with_reducible refine (P7.out _).mono ?_); rintro r w8 ⟨rfl, rfl⟩))
    | (go_at_call 9; first | ((with_reducible refine (P1.out _ q1.out).mono ?_); rintro r w2 ⟨rfl, q2⟩; replace q2 := Lib.hid q2; clear q1 P1) | ((with_reducible refine (P2.out _ q2.out).mono ?_); rintro r w3 ⟨rfl, q3⟩; replace q3 := Lib.hid q3; clear q2 P2) | ((with_reducible refine (P3.out _ q3.out).mono ?_); rintro r w4 ⟨rfl, q4⟩; replace q4 := Lib.hid q4; clear q3 P3))
    | (go_at_call 18; (with_reducible refine (P4.out _ q4.out).mono ?_); rintro r w5 ⟨rfl, q5⟩; replace q5 := Lib.hid q5; clear q4 P4)
    | (go_at_call 12; first | ((with_reducible refine (P5.out _ q5.out).mono ?_); rintro r w6 ⟨rfl, q6⟩; replace q6 := Lib.hid q6; clear q5 P5) | ((with_reducible refine (P6.out _ q6.out).mono ?_); rintro r w7 ⟨rfl, q7⟩; replace q7 := Lib.hid q7; clear q6 P6)))
  go_ret
  exact ⟨rfl, by have h9 := q7.out.be; rwa [hb.out] at h9⟩

set_option maxRecDepth 100000 in
set_option maxRecDepth 100000 in
set_option maxHeartbeats 4000000 in
theorem arenaNone_walk (n : Int) (W : World) :
    Calls Try.prog 5 #[.int .i64 n] W fun r w' => r = .returned (.bool true) ∧ Below W.heap.size W w' := by
  go_enter Try.func5, Try.ntmps5
  go_wp2_with (first
    | (go_at_call 9; (with_reducible refine (takeA_nil _ _).mono ?_); rintro r w1 ⟨rfl, rfl⟩)
    | (go_at_call 12; (with_reducible refine (giveA_nil _ _).mono ?_); rintro r w1 ⟨rfl, rfl⟩)
    | (go_at_call 14; (with_reducible refine (chargeA_nil _ _).mono ?_); rintro r w1 ⟨rfl, rfl⟩)
    | (go_at_call 16; (with_reducible refine (backA_nil _ _).mono ?_); rintro r w1 ⟨rfl, rfl⟩)
    | (go_at_call 18; (with_reducible refine (usedA_nil _).mono ?_); rintro r w1 ⟨rfl, rfl⟩)
    | (go_at_call 20; (with_reducible refine (regionsA_nil _).mono ?_); rintro r w1 ⟨rfl, rfl⟩)
    | (go_at_call 6; (with_reducible refine (awake11 _).mono ?_); rintro r w1 ⟨rfl, hb⟩))
  go_ret
  exact ⟨rfl, hb⟩
end Go.Proofs.Ytmgikdkcdihdlaa
