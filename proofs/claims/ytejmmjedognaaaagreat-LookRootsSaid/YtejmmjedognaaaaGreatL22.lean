/-
  THE REFERENCE's LOOK: bytes.
  THE REFERENCE's LOOK: bytes of a HeadRefc; bytes as a whole.
  THE REFERENCE's LOOK: bytes as a whole.
-/
import Derived.Test.YtejmmjedognaaaaGreatL21
namespace Go.Proofs.YtejmmjedognaaaaGreat
open Go.RowKit
open St

set_option maxRecDepth 100000 in
theorem sml_cases (x most : Int) : (most < x ∧ smlZ x most = -1) ∨ (x ≤ most ∧ smlZ x most = x) := by
  unfold smlZ
  by_cases h : most < x
  · rw [if_pos h]; exact .inl ⟨h, rfl⟩
  · rw [if_neg h]; exact .inr ⟨by omega, rfl⟩

set_option maxRecDepth 100000 in
theorem packed12_none {w : World} {A : Option Addr} {m c : Nat} {ws : List Int} (h : Zs .u64 w A m c ws) (n : Nat) (hn : n ≤ 1000) (hm : m ≤ 1000) (hp : pkO ws n = none) :
    Calls Tryz.prog 101 #[.slice A m c, .int .i64 (n : Int)] w fun e w' => e = .returned (.tuple #[.string ⟨#[]⟩, .bool false]) ∧ Below w.heap.size w w' :=
  (packed12_any h n hn hm).mono fun e w' hh => by
    obtain ⟨⟨_, rfl⟩ | ⟨l, hl, _⟩, hb⟩ := hh
    · exact ⟨rfl, hb⟩
    · rw [hp] at hl; cases hl
set_option maxRecDepth 100000 in
theorem packed12_some {w : World} {A : Option Addr} {m c : Nat} {ws : List Int} (h : Zs .u64 w A m c ws) (n : Nat) (hn : n ≤ 1000) (hm : m ≤ 1000) {l : List Nat} (hp : pkO ws n = some l) :
    Calls Tryz.prog 101 #[.slice A m c, .int .i64 (n : Int)] w fun e w' => e = .returned (.tuple #[.string (Wr.str l), .bool true]) ∧ Below w.heap.size w w' :=
  (packed12_any h n hn hm).mono fun e w' hh => by
    obtain ⟨⟨hl, _⟩ | ⟨l', hl, rfl⟩, hb⟩ := hh
    · rw [hp] at hl; cases hl
    · rw [hp] at hl
      injection hl with hl
      subst hl
      exact ⟨rfl, hb⟩

/-- The bytes of a HeadBytes. -/
def byH (ws : List Int) : ByteArray × Int × Bool :=
  if smlZ (ws.getD 0 0) 64 < 0 then (⟨#[]⟩, 0, false)
  else match pkO (ws.drop 1) (smlZ (ws.getD 0 0) 64).toNat with
    | some l => (Wr.str l, smlZ (ws.getD 0 0) 64, true)
    | none => (⟨#[]⟩, smlZ (ws.getD 0 0) 64, false)
/-- The bytes of a HeadRefc. -/
def byC (S : List Slt) (dp : Bool) (ws : List Int) : ByteArray × Int × Bool :=
  if smlZ (ws.getD 0 0) 1073741824 < 0 ∨ smlZ (ws.getD 1 0) 1073741824 < 0 ∨ smlZ (ws.getD 2 0) 400 < 0 then (⟨#[]⟩, 0, false)
  else if dp = false then (⟨#[]⟩, smlZ (ws.getD 2 0) 400, true)
  else if (S.length : Int) ≤ smlZ (ws.getD 0 0) 1073741824 ∨ (gt S (smlZ (ws.getD 0 0) 1073741824).toNat).ct = 0 ∨ (gt S (smlZ (ws.getD 0 0) 1073741824).toNat).st ≠ smlZ (ws.getD 1 0) 1073741824 ∨ ((gt S (smlZ (ws.getD 0 0) 1073741824).toNat).tx.size : Int) ≠ smlZ (ws.getD 2 0) 400 then (⟨#[]⟩, 0, false)
  else ((gt S (smlZ (ws.getD 0 0) 1073741824).toNat).tx, smlZ (ws.getD 2 0) 400, true)
def byR (S : List Slt) (dp : Bool) (kd : Int) (ws : List Int) : ByteArray × Int × Bool :=
  if kd = 3 ∧ 1 ≤ ws.length then byH ws else if kd = 4 ∧ ws.length = 3 then byC S dp ws else (⟨#[]⟩, 0, false)
/-- What bytes answers. -/
def ByP (w : World) (x : ByteArray × Int × Bool) (e : Ending) (w' : World) : Prop := e = .returned (.tuple #[.string x.1, .int .i64 x.2.1, .bool x.2.2]) ∧ Below w.heap.size w w'

section
variable {w : World} {r : DR} {SA : Option Addr} {sm sc : Nat} {S : List Slt} {dp : Bool} {A : Option Addr} {n c : Nat} {ws : List Int}
set_option maxRecDepth 100000 in
set_option maxRecDepth 100000 in
set_option maxHeartbeats 4000000 in
theorem bytes12_H (h : Zs .u64 w A n c ws) (hn : n ≤ 1000) (h1 : 1 ≤ n) :
    Calls Tryz.prog 73 #[.agg #[.int .i64 r.y.at_, .slice r.y.A r.y.n r.y.c, .int .i64 r.o.at_, .slice r.o.A r.o.n r.o.c, .int .i64 r.size, .int .i64 r.mark, .slice r.F r.fm r.fc, .slice r.R r.rm r.rc, .slice r.H r.hm r.hc, .slice SA sm sc, .bool dp], .int .i64 3, .slice A n c] w (ByP w (byH ws)) := by
  obtain ⟨wa, hwa⟩ : ∃ wa, wa = w.alloc (.cells #[.int .i64 r.y.at_, .slice r.y.A r.y.n r.y.c, .int .i64 r.o.at_, .slice r.o.A r.o.n r.o.c, .int .i64 r.size, .int .i64 r.mark, .slice r.F r.fm r.fc, .slice r.R r.rm r.rc, .slice r.H r.hm r.hc, .slice SA sm sc, .bool dp] 72) := ⟨_, rfl⟩
  have hba : Below w.heap.size w wa := by rw [hwa]; exact (Below.refl _ w).alloc (Nat.le_refl _) _
  have hz := h.below hba
  obtain ⟨b, o, hA, _⟩ := hz.some (by omega)
  subst hA
  have y0 : wa.cell? ⟨b, o, none⟩ = some (.int .u64 (ws.getD 0 0)) := by simpa using hz.at_ (j := 0) (by omega)
  have hx := wf_u (hz.wfAt (j := 0) (by omega))
  have HS := Lib.hid (small12_any (ws.getD 0 0) 64 hx (by omega) wa)
  have hcm : c ≤ 9223372036854775807 := hz.cm
  have hnc := hz.nc
  have hd1 : decide ((1 : Int) ≤ (n : Int)) = true := decide_eq_true (by omega)
  have HB := Lib.hid hba
  have hcs := sml_cases (ws.getD 0 0) 64
  have HR : Hid (byH ws = byH ws) := Lib.hid rfl
  unfold byH at HR ⊢
  have HZ := Lib.hid hz
  clear h hba hz
  generalize ws.getD 0 0 = x at *
  rcases hcs with ⟨h2, e⟩ | ⟨h2, e⟩
  · rw [e] at HS
    rw [if_pos (by rw [e]; omega)]
    clear HR e
    go_enter Tryz.func73, Tryz.ntmps73
    go_upto_region 1 with fail
    rw [← hwa]
    clear hwa
    go_wp2_with (go_at_call 100; (with_reducible refine HS.out.mono ?_); rintro e w1 ⟨rfl, rfl⟩)
    go_ret3
    exact ⟨rfl, HB.out⟩
  · rw [e] at HS HR
    rw [e, if_neg (by omega)]
    obtain ⟨k, rfl⟩ : ∃ k : Nat, x = (k : Int) := ⟨x.toNat, by omega⟩
    rw [show ((k : Int)).toNat = k by omega]
    have hd2 : decide ((k : Int) < 0) = false := decide_eq_false (by omega)
    clear HR e
    by_cases hc1 : c = 1
    · have hpart := HZ.out.part (lo := 1) (m := n - 1) (o' := o) (by omega) (.inl (by omega))
      rw [List.take_of_length_le (by rw [List.length_drop, HZ.out.len]; exact Nat.le_refl _)] at hpart
      have hn1 : n = 1 := by omega
      subst hc1 hn1
      cases hpk : pkO (List.drop 1 ws) k with
      | none =>
        have HP := Lib.hid (packed12_none hpart k (by omega) (by omega) hpk)
        have HBB := Lib.hid (fun w2 (hb2 : Below wa.heap.size wa w2) => HB.out.trans (hb2.mono HB.out.size))
        clear hx
        clear hpart HZ hpk
        go_enter Tryz.func73, Tryz.ntmps73
        go_upto_region 1 with fail
        rw [← hwa]
        clear hwa
        go_wp2_with (first
          | (go_at_call 100; (with_reducible refine HS.out.mono ?_); rintro e w1 ⟨rfl, rfl⟩)
          | (go_at_call 101; (with_reducible refine HP.out.mono ?_); rintro e w2 ⟨rfl, hb2⟩; replace hb2 := Lib.hid hb2))
        go_ret3
        exact ⟨rfl, HBB.out _ hb2.out⟩
      | some l =>
        have HP := Lib.hid (packed12_some hpart k (by omega) (by omega) hpk)
        have HBB := Lib.hid (fun w2 (hb2 : Below wa.heap.size wa w2) => HB.out.trans (hb2.mono HB.out.size))
        clear hx
        clear hpart HZ hpk
        go_enter Tryz.func73, Tryz.ntmps73
        go_upto_region 1 with fail
        rw [← hwa]
        clear hwa
        go_wp2_with (first
          | (go_at_call 100; (with_reducible refine HS.out.mono ?_); rintro e w1 ⟨rfl, rfl⟩)
          | (go_at_call 101; (with_reducible refine HP.out.mono ?_); rintro e w2 ⟨rfl, hb2⟩; replace hb2 := Lib.hid hb2))
        go_ret3
        exact ⟨rfl, HBB.out _ hb2.out⟩
    · have hpart := HZ.out.part (lo := 1) (m := n - 1) (o' := o + 1) (by omega) (.inr rfl)
      rw [List.take_of_length_le (by rw [List.length_drop, HZ.out.len]; exact Nat.le_refl _)] at hpart
      cases hpk : pkO (List.drop 1 ws) k with
      | none =>
        have HP := Lib.hid (packed12_none hpart k (by omega) (by omega) hpk)
        have HBB := Lib.hid (fun w2 (hb2 : Below wa.heap.size wa w2) => HB.out.trans (hb2.mono HB.out.size))
        clear hx
        clear hpart HZ hpk
        go_enter Tryz.func73, Tryz.ntmps73
        go_upto_region 1 with fail
        rw [← hwa]
        clear hwa
        go_wp2_with (first
          | (go_at_call 100; (with_reducible refine HS.out.mono ?_); rintro e w1 ⟨rfl, rfl⟩)
          | (go_at_call 101; (with_reducible refine HP.out.mono ?_); rintro e w2 ⟨rfl, hb2⟩; replace hb2 := Lib.hid hb2))
        go_ret3
        exact ⟨rfl, HBB.out _ hb2.out⟩
      | some l =>
        have HP := Lib.hid (packed12_some hpart k (by omega) (by omega) hpk)
        have HBB := Lib.hid (fun w2 (hb2 : Below wa.heap.size wa w2) => HB.out.trans (hb2.mono HB.out.size))
        clear hx
        clear hpart HZ hpk
        go_enter Tryz.func73, Tryz.ntmps73
        go_upto_region 1 with fail
        rw [← hwa]
        clear hwa
        go_wp2_with (first
          | (go_at_call 100; (with_reducible refine HS.out.mono ?_); rintro e w1 ⟨rfl, rfl⟩)
          | (go_at_call 101; (with_reducible refine HP.out.mono ?_); rintro e w2 ⟨rfl, hb2⟩; replace hb2 := Lib.hid hb2))
        go_ret3
        exact ⟨rfl, HBB.out _ hb2.out⟩
end
end Go.Proofs.YtejmmjedognaaaaGreat

namespace Go.Proofs.YtejmmjedognaaaaGreat
open Go.RowKit
open St

section
variable {w : World} {r : DR} {SA : Option Addr} {sm sc : Nat} {S : List Slt} {dp : Bool} {A : Option Addr} {n c : Nat} {ws : List Int}
set_option maxRecDepth 100000 in
set_option maxRecDepth 100000 in
set_option maxHeartbeats 4000000 in
theorem bytes12_C (h : Zs .u64 w A 3 c ws) (hS : SLs w SA sm sc S) (hsm : sm ≤ 1000) :
    Calls Tryz.prog 73 #[.agg #[.int .i64 r.y.at_, .slice r.y.A r.y.n r.y.c, .int .i64 r.o.at_, .slice r.o.A r.o.n r.o.c, .int .i64 r.size, .int .i64 r.mark, .slice r.F r.fm r.fc, .slice r.R r.rm r.rc, .slice r.H r.hm r.hc, .slice SA sm sc, .bool dp], .int .i64 4, .slice A 3 c] w (ByP w (byC S dp ws)) := by
  obtain ⟨wa, hwa⟩ : ∃ wa, wa = w.alloc (.cells #[.int .i64 r.y.at_, .slice r.y.A r.y.n r.y.c, .int .i64 r.o.at_, .slice r.o.A r.o.n r.o.c, .int .i64 r.size, .int .i64 r.mark, .slice r.F r.fm r.fc, .slice r.R r.rm r.rc, .slice r.H r.hm r.hc, .slice SA sm sc, .bool dp] 72) := ⟨_, rfl⟩
  have hba : Below w.heap.size w wa := by rw [hwa]; exact (Below.refl _ w).alloc (Nat.le_refl _) _
  have hz := h.below hba
  have hSa := hS.below hba
  have xa : Lx wa w.heap.size r SA sm sc dp := ⟨by rw [hwa]; exact heap_alloc_new w _⟩
  obtain ⟨b, o, hA, _⟩ := hz.some (by omega)
  subst hA
  have y0 : wa.cell? ⟨b, o, none⟩ = some (.int .u64 (ws.getD 0 0)) := by simpa using hz.at_ (j := 0) (by omega)
  have y1 : wa.cell? ⟨b, o + 1, none⟩ = some (.int .u64 (ws.getD 1 0)) := hz.at_ (j := 1) (by omega)
  have y2 : wa.cell? ⟨b, o + 2, none⟩ = some (.int .u64 (ws.getD 2 0)) := hz.at_ (j := 2) (by omega)
  have hx0 := wf_u (hz.wfAt (j := 0) (by omega))
  have hx1 := wf_u (hz.wfAt (j := 1) (by omega))
  have hx2 := wf_u (hz.wfAt (j := 2) (by omega))
  have HQ0 := Lib.hid (fun (q : Nat) => Calls.quiet_of_same (w := wa) (n := q) ((small12_any (ws.getD 0 0) 1073741824 hx0 (by omega) (wa.drewN q)).mono fun _ _ h => ⟨h.1, h.2.symm⟩))
  have HQ1 := Lib.hid (fun (q : Nat) => Calls.quiet_of_same (w := wa) (n := q) ((small12_any (ws.getD 1 0) 1073741824 hx1 (by omega) (wa.drewN q)).mono fun _ _ h => ⟨h.1, h.2.symm⟩))
  have HQ2 := Lib.hid (fun (q : Nat) => Calls.quiet_of_same (w := wa) (n := q) ((small12_any (ws.getD 2 0) 400 hx2 (by omega) (wa.drewN q)).mono fun _ _ h => ⟨h.1, h.2.symm⟩))
  have hcm : c ≤ 9223372036854775807 := hz.cm
  have hnc := hz.nc
  have c9 := xa.c9
  have c10 := xa.c10
  have HB : Hid (∀ q, Below w.heap.size w (wa.drewN q)) := Lib.hid (fun q => ⟨hba.os, hba.tape, hba.output, hba.size, hba.block⟩)
  have hl : S.length = sm := hS.len
  have HSa := Lib.hid hSa
  unfold byC
  rcases sml_cases (ws.getD 0 0) 1073741824 with ⟨h0, e0⟩ | ⟨h0, e0⟩
  · rw [if_pos (by rw [e0]; exact .inl (by omega))]
    rw [e0] at HQ0
    clear h hS hSa hz hba xa hx0 hx1 hx2 e0
    generalize smlZ (ws.getD 1 0) 1073741824 = t1 at *
    generalize smlZ (ws.getD 2 0) 400 = t2 at *
    generalize ws.getD 0 0 = x0 at *
    generalize ws.getD 1 0 = x1 at *
    generalize ws.getD 2 0 = x2 at *
    go_enter Tryz.func73, Tryz.ntmps73
    go_upto_region 1 with fail
    rw [← hwa]
    clear hwa
    go_wp2_with fail
    go_quiet (first | (go_at_call 100; first | with_reducible exact HQ0.out _ | with_reducible exact HQ1.out _ | with_reducible exact HQ2.out _))
    go_wp2
    go_ret3
    exact ⟨rfl, HB.out _⟩
  · rcases sml_cases (ws.getD 1 0) 1073741824 with ⟨h1, e1⟩ | ⟨h1, e1⟩
    · rw [if_pos (by rw [e1]; exact .inr (.inl (by omega)))]
      rw [e0] at HQ0
      rw [e1] at HQ1
      clear h hS hSa hz hba xa hx1 hx2 e0 e1
      generalize smlZ (ws.getD 2 0) 400 = t2 at *
      generalize ws.getD 0 0 = x0 at *
      generalize ws.getD 1 0 = x1 at *
      generalize ws.getD 2 0 = x2 at *
      have hd1 : decide (x0 < 0) = false := decide_eq_false (by omega)
      go_enter Tryz.func73, Tryz.ntmps73
      go_upto_region 1 with fail
      rw [← hwa]
      clear hwa
      go_wp2_with fail
      go_quiet (first | (go_at_call 100; first | with_reducible exact HQ0.out _ | with_reducible exact HQ1.out _ | with_reducible exact HQ2.out _))
      clear hx0
      go_wp2
      go_ret3
      exact ⟨rfl, HB.out _⟩
    · rcases sml_cases (ws.getD 2 0) 400 with ⟨h2, e2⟩ | ⟨h2, e2⟩
      · rw [if_pos (by rw [e2]; exact .inr (.inr (by omega)))]
        rw [e0] at HQ0
        rw [e1] at HQ1
        rw [e2] at HQ2
        clear h hS hSa hz hba xa hx2 e0 e1 e2
        generalize ws.getD 0 0 = x0 at *
        generalize ws.getD 1 0 = x1 at *
        generalize ws.getD 2 0 = x2 at *
        have hd1 : decide (x0 < 0) = false := decide_eq_false (by omega)
        have hd2 : decide (x1 < 0) = false := decide_eq_false (by omega)
        go_enter Tryz.func73, Tryz.ntmps73
        go_upto_region 1 with fail
        rw [← hwa]
        clear hwa
        go_wp2_with fail
        go_quiet (first | (go_at_call 100; first | with_reducible exact HQ0.out _ | with_reducible exact HQ1.out _ | with_reducible exact HQ2.out _))
        clear hx0 hx1
        go_wp2
        go_ret3
        exact ⟨rfl, HB.out _⟩
      · rw [if_neg (by rw [e0, e1, e2]; omega)]
        rw [e0] at HQ0
        rw [e1] at HQ1
        rw [e2] at HQ2
        rw [e0, e1, e2]
        obtain ⟨k, hk⟩ : ∃ k : Nat, ws.getD 0 0 = (k : Int) := ⟨(ws.getD 0 0).toNat, by omega⟩
        obtain ⟨p, hp⟩ : ∃ p : Nat, ws.getD 1 0 = (p : Int) := ⟨(ws.getD 1 0).toNat, by omega⟩
        obtain ⟨m, hm⟩ : ∃ m : Nat, ws.getD 2 0 = (m : Int) := ⟨(ws.getD 2 0).toNat, by omega⟩
        rw [hk] at HQ0 y0 h0
        rw [hp] at HQ1 y1 h1
        rw [hm] at HQ2 y2 h2
        rw [hk, hp, hm, show ((k : Int)).toNat = k by omega]
        have hd1 : decide ((k : Int) < 0) = false := decide_eq_false (by omega)
        have hd2 : decide ((p : Int) < 0) = false := decide_eq_false (by omega)
        have hd3 : decide ((m : Int) < 0) = false := decide_eq_false (by omega)
        clear hk hp hm hx0 hx1 hx2 e0 e1 e2
        cases dp with
        | false =>
          rw [if_pos rfl]
          clear h hS hSa hz hba xa
          go_enter Tryz.func73, Tryz.ntmps73
          go_upto_region 1 with fail
          rw [← hwa]
          clear hwa
          go_wp2_with fail
          go_quiet (first | (go_at_call 100; first | with_reducible exact HQ0.out _ | with_reducible exact HQ1.out _ | with_reducible exact HQ2.out _))
          go_wp2
          go_ret3
          exact ⟨rfl, HB.out _⟩
        | true =>
          rw [if_neg (by simp)]
          by_cases g0 : (S.length : Int) ≤ (k : Int)
          · rw [if_pos (.inl g0)]
            have hd4 : decide ((sm : Int) ≤ (k : Int)) = true := decide_eq_true (by omega)
            clear h hS hSa hz hba xa
            go_enter Tryz.func73, Tryz.ntmps73
            go_upto_region 1 with fail
            rw [← hwa]
            clear hwa
            go_wp2_with fail
            go_quiet (first | (go_at_call 100; first | with_reducible exact HQ0.out _ | with_reducible exact HQ1.out _ | with_reducible exact HQ2.out _))
            go_wp2
            go_ret3
            exact ⟨rfl, HB.out _⟩
          · have hks : k < sm := by omega
            have hd4 : decide ((sm : Int) ≤ (k : Int)) = false := decide_eq_false (by omega)
            obtain ⟨bs, os, hSA, _⟩ := HSa.out.some (by omega)
            subst hSA
            obtain ⟨s0, s1, s2⟩ := HSa.out.at_ hks
            have htx := (HSa.out.wf k hks).2.2
            unfold maxLen at htx
            generalize gt S k = f at *
            by_cases g1 : f.ct = 0
            · rw [if_pos (.inr (.inl g1))]
              have hd5 : (f.ct == 0) = true := beq_iff_eq.2 g1
              clear h hS hSa hz hba xa
              go_enter Tryz.func73, Tryz.ntmps73
              go_upto_region 1 with fail
              rw [← hwa]
              clear hwa
              go_wp2_with fail
              go_quiet (first | (go_at_call 100; first | with_reducible exact HQ0.out _ | with_reducible exact HQ1.out _ | with_reducible exact HQ2.out _))
              go_wp2
              go_ret3
              exact ⟨rfl, HB.out _⟩
            · have hd5 : (f.ct == 0) = false := beq_eq_false_iff_ne.2 g1
              by_cases g2 : f.st ≠ (p : Int)
              · rw [if_pos (.inr (.inr (.inl g2)))]
                have hd6 : (f.st != (p : Int)) = true := bne_iff_ne.2 g2
                clear h hS hSa hz hba xa
                go_enter Tryz.func73, Tryz.ntmps73
                go_upto_region 1 with fail
                rw [← hwa]
                clear hwa
                go_wp2_with fail
                go_quiet (first | (go_at_call 100; first | with_reducible exact HQ0.out _ | with_reducible exact HQ1.out _ | with_reducible exact HQ2.out _))
                go_wp2
                go_ret3
                exact ⟨rfl, HB.out _⟩
              · have hd6 : (f.st != (p : Int)) = false := by simpa using g2
                by_cases g3 : (f.tx.size : Int) ≠ (m : Int)
                · rw [if_pos (.inr (.inr (.inr g3)))]
                  have hd7 : ((f.tx.size : Int) != (m : Int)) = true := bne_iff_ne.2 g3
                  clear h hS hSa hz hba xa
                  go_enter Tryz.func73, Tryz.ntmps73
                  go_upto_region 1 with fail
                  rw [← hwa]
                  clear hwa
                  go_wp2_with fail
                  go_quiet (first | (go_at_call 100; first | with_reducible exact HQ0.out _ | with_reducible exact HQ1.out _ | with_reducible exact HQ2.out _))
                  go_wp2
                  go_ret3
                  exact ⟨rfl, HB.out _⟩
                · have hd7 : ((f.tx.size : Int) != (m : Int)) = false := by simpa using g3
                  rw [if_neg (by rintro (e | e | e | e); exact g0 e; exact g1 e; exact g2 e; exact g3 e)]
                  clear g0 g1 g2 g3
                  clear h hS hSa hz hba xa
                  go_enter Tryz.func73, Tryz.ntmps73
                  go_upto_region 1 with fail
                  rw [← hwa]
                  clear hwa
                  go_wp2_with fail
                  go_quiet (first | (go_at_call 100; first | with_reducible exact HQ0.out _ | with_reducible exact HQ1.out _ | with_reducible exact HQ2.out _))
                  go_wp2
                  go_ret3
                  exact ⟨rfl, HB.out _⟩
end
end Go.Proofs.YtejmmjedognaaaaGreat

namespace Go.Proofs.YtejmmjedognaaaaGreat
open Go.RowKit
open St

section
variable {w : World} {r : DR} {SA : Option Addr} {sm sc : Nat} {S : List Slt} {dp : Bool} {A : Option Addr} {n c : Nat} {ws : List Int}
set_option maxRecDepth 100000 in
set_option maxRecDepth 100000 in
set_option maxHeartbeats 4000000 in
theorem bytes12_none (kd : Int) (h1 : ¬ (kd = 3 ∧ 1 ≤ n)) (h2 : ¬ (kd = 4 ∧ n = 3)) (hn : n ≤ 1000) :
    Calls Tryz.prog 73 #[.agg #[.int .i64 r.y.at_, .slice r.y.A r.y.n r.y.c, .int .i64 r.o.at_, .slice r.o.A r.o.n r.o.c, .int .i64 r.size, .int .i64 r.mark, .slice r.F r.fm r.fc, .slice r.R r.rm r.rc, .slice r.H r.hm r.hc, .slice SA sm sc, .bool dp], .int .i64 kd, .slice A n c] w (ByP w (⟨#[]⟩, 0, false)) := by
  have hb : ∀ o : Obj, Below w.heap.size w (w.alloc o) := fun o => (Below.refl _ w).alloc (Nat.le_refl _) o
  replace hb := Lib.hid hb
  by_cases e3 : kd = 3
  · subst e3
    have hd2 : decide ((1 : Int) ≤ (n : Int)) = false := decide_eq_false (by omega)
    clear h1 h2
    go_enter Tryz.func73, Tryz.ntmps73
    go_wp2
    go_ret3
    exact ⟨rfl, hb.out _⟩
  · have hd1 : (kd == 3) = false := beq_eq_false_iff_ne.2 e3
    by_cases e4 : kd = 4
    · subst e4
      have hd2 : ((n : Int) == 3) = false := beq_eq_false_iff_ne.2 (by omega)
      clear h1 h2 e3
      go_enter Tryz.func73, Tryz.ntmps73
      go_wp2
      go_ret3
      exact ⟨rfl, hb.out _⟩
    · have hd2 : (kd == 4) = false := beq_eq_false_iff_ne.2 e4
      clear h1 h2 e3 e4
      go_enter Tryz.func73, Tryz.ntmps73
      go_wp2
      go_ret3
      exact ⟨rfl, hb.out _⟩
set_option maxRecDepth 100000 in
theorem bytes12_any (kd : Int) (h : Zs .u64 w A n c ws) (hn : n ≤ 1000) (hS : SLs w SA sm sc S) (hsm : sm ≤ 1000) :
    Calls Tryz.prog 73 #[.agg #[.int .i64 r.y.at_, .slice r.y.A r.y.n r.y.c, .int .i64 r.o.at_, .slice r.o.A r.o.n r.o.c, .int .i64 r.size, .int .i64 r.mark, .slice r.F r.fm r.fc, .slice r.R r.rm r.rc, .slice r.H r.hm r.hc, .slice SA sm sc, .bool dp], .int .i64 kd, .slice A n c] w (ByP w (byR S dp kd ws)) := by
  unfold byR
  rw [h.len]
  by_cases h1 : kd = 3 ∧ 1 ≤ n
  · rw [if_pos h1, h1.1]
    exact bytes12_H h hn h1.2
  · rw [if_neg h1]
    by_cases h2 : kd = 4 ∧ n = 3
    · rw [if_pos h2, h2.1]
      obtain ⟨_, rfl⟩ := h2
      exact bytes12_C h hS hsm
    · rw [if_neg h2]
      exact bytes12_none kd h1 h2 hn
end

set_option maxRecDepth 100000 in
theorem str_size (l : List Nat) : (Wr.str l).size = l.length := by simp [Wr.str, ByteArray.size]
set_option maxRecDepth 100000 in
/-- What bytes tells is as long as it says. -/
theorem byR_ok {S : List Slt} {dp : Bool} {kd : Int} {ws : List Int} (h : (byR S dp kd ws).2.2 = true) : (0 ≤ (byR S dp kd ws).2.1 ∧ (byR S dp kd ws).2.1 ≤ 400) ∧ (¬ (dp = false ∧ kd = 4) → (((byR S dp kd ws).1.size : Nat) : Int) = (byR S dp kd ws).2.1) := by
  unfold byR at h ⊢
  split at h
  · next h3 =>
    rw [if_pos h3]
    unfold byH at h ⊢
    split at h
    · cases h
    · next h4 =>
      rw [if_neg h4]
      cases hp : pkO (ws.drop 1) (smlZ (ws.getD 0 0) 64).toNat with
      | none => rw [hp] at h; cases h
      | some l =>
        simp only
        have hs := sml_cases (ws.getD 0 0) 64
        refine ⟨by omega, fun _ => ?_⟩
        rw [str_size]
        unfold pkO at hp
        split at hp
        · next h5 =>
          injection hp with hp
          rw [← hp, List.length_take, byts_len]
          have := h5.1
          omega
        · cases hp
  · next h3 =>
    rw [if_neg h3]
    split at h
    · next h4 =>
      rw [if_pos h4]
      unfold byC at h ⊢
      have hs := sml_cases (ws.getD 2 0) 400
      split at h
      · cases h
      · next h5 =>
        rw [if_neg h5]
        split at h
        · next h6 =>
          rw [if_pos h6]
          exact ⟨by simp only; omega, fun hh => absurd ⟨h6, h4.1⟩ hh⟩
        · next h6 =>
          rw [if_neg h6]
          split at h
          · cases h
          · next h7 =>
            rw [if_neg h7]
            refine ⟨by simp only; omega, fun _ => ?_⟩
            simp only
            omega
    · cases h
end Go.Proofs.YtejmmjedognaaaaGreat
