/-
  THE LAW WordTells.
-/
import Derived.Test.YthniiamlfhigaaaWdB
namespace Go.Proofs.Ythniiamlfhigaaa
open Go.RowKit

set_option maxRecDepth 100000 in
set_option maxHeartbeats 4000000 in
theorem wordTells_walk (t l k s w : Int) (h : Wd w) (W : World) :
    Calls Try.prog 3 #[.int .i64 t, .int .i64 l, .int .i64 k, .int .i64 s, .int .u64 w] W fun e W' => e = .returned (.bool true) ∧ Below W.heap.size W W' := by
  have H := Lib.hid h
  clear h
  have hz := Below.refl W.heap.size W
  obtain ⟨mv, hmv⟩ : ∃ mv, mv = (if pmB t l = true then mkZ t l else 0) := ⟨_, rfl⟩
  obtain ⟨mb, hmb⟩ : ∃ mb, mb = pmB t l := ⟨_, rfl⟩
  obtain ⟨dv, hdv⟩ : ∃ dv, dv = (if hdB k s = true then hdZ k s else 0) := ⟨_, rfl⟩
  obtain ⟨db, hdb⟩ : ∃ db, db = hdB k s := ⟨_, rfl⟩
  obtain ⟨pa, hpa⟩ : ∃ pa, pa = (if ptB w = true then w / 8 % 8 else 0) := ⟨_, rfl⟩
  obtain ⟨pb, hpb⟩ : ∃ pb, pb = (if ptB w = true then w / 64 else 0) := ⟨_, rfl⟩
  obtain ⟨pc, hpc⟩ : ∃ pc, pc = ptB w := ⟨_, rfl⟩
  obtain ⟨lv, hlv⟩ : ∃ lv, lv = ldZ w := ⟨_, rfl⟩
  obtain ⟨tv, htv⟩ : ∃ tv, tv = w % 8 := ⟨_, rfl⟩
  obtain ⟨nv, hnv⟩ : ∃ nv, nv = plB w := ⟨_, rfl⟩
  have hmv := Lib.hid hmv
  have hmb := Lib.hid hmb
  have hdv := Lib.hid hdv
  have hdb := Lib.hid hdb
  have hpa := Lib.hid hpa
  have hpb := Lib.hid hpb
  have hpc := Lib.hid hpc
  have hlv := Lib.hid hlv
  have htv := Lib.hid htv
  have hnv := Lib.hid hnv
  go_enter Try.func3, Try.ntmps3
  go_wp2_with (first
    | (go_at_call 5; refine (make_any _ _ _).mono ?_; rw [← hmv.out, ← hmb.out]; rintro e w' ⟨rfl, rfl⟩)
    | (go_at_call 6; refine (refMake_any _ _ _).mono ?_; rw [← hmv.out, ← hmb.out]; rintro e w' ⟨rfl, rfl⟩)
    | (go_at_call 7; refine (head_any _ _ _).mono ?_; rw [← hdv.out, ← hdb.out]; rintro e w' ⟨rfl, rfl⟩)
    | (go_at_call 8; refine (refHead_any _ _ _).mono ?_; rw [← hdv.out, ← hdb.out]; rintro e w' ⟨rfl, rfl⟩)
    | (go_at_call 9; refine (parts_any _ H.out _).mono ?_; rw [← hpa.out, ← hpb.out, ← hpc.out]; rintro e w' ⟨rfl, hb⟩; replace hz := hz.trans (hb.mono hz.size))
    | (go_at_call 10; refine (refParts_any _ H.out _).mono ?_; rw [← hpa.out, ← hpb.out, ← hpc.out]; rintro e w' ⟨rfl, rfl⟩)
    | (go_at_call 11; refine (tag_any _ H.out _).mono ?_; rw [← htv.out]; rintro e w' ⟨rfl, rfl⟩)
    | (go_at_call 12; refine (refTag_any _ H.out _).mono ?_; rw [← htv.out]; rintro e w' ⟨rfl, rfl⟩)
    | (go_at_call 13; refine (load_any _ H.out _).mono ?_; rw [← hlv.out]; rintro e w' ⟨rfl, rfl⟩)
    | (go_at_call 14; refine (refLoad_any _ H.out _).mono ?_; rw [← hlv.out]; rintro e w' ⟨rfl, rfl⟩)
    | (go_at_call 15; refine (plain_any _ H.out _).mono ?_; rw [← hnv.out]; rintro e w1 ⟨rfl, h1⟩)
    | (go_at_call 16; refine (refPlain_any _ H.out _).mono ?_; rw [← hnv.out]; rintro e w2 ⟨rfl, h2⟩)
    | (go_at_call 17; refine (awake8_any _).mono ?_; rintro e w3 ⟨rfl, h3⟩))
  all_goals go_ret
  all_goals exact ⟨rfl, ((hz.trans (h1.mono hz.size)).trans (h2.mono (Nat.le_trans hz.size h1.size))).trans (h3.mono (Nat.le_trans (Nat.le_trans hz.size h1.size) h2.size))⟩
end Go.Proofs.Ythniiamlfhigaaa
