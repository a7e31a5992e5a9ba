/-
  THE REFERENCE's LOOK: bytes of a HeadRefc; bytes as a whole.
  THE REFERENCE's LOOK: bytes as a whole.
  THE REFERENCE's LOOK: sub.
-/
import Derived.Test.YtejmmjedognaaaaGreatMv20
namespace Go.Proofs.YtejmmjedognaaaaGreat
open Go.RowKit
open St

section
variable {w : World} {r : DR} {SA : Option Addr} {sm sc : Nat} {S : List Slt} {dp : Bool} {A : Option Addr} {n c : Nat} {ws : List Int}
set_option maxRecDepth 100000 in
set_option maxRecDepth 100000 in
set_option maxHeartbeats 4000000 in
theorem bytes12_C (h : Zs .u64 w A 3 c ws) (hS : SLs w SA sm sc S) (hsm : sm ≤ 1000) :
    Calls Tryz.prog 73 #[.agg #[.int .i64 r.y.at_, .slice r.y.A r.y.n r.y.c, .int .i64 r.o.at_, .slice r.o.A r.o.n r.o.c, .int .i64 r.size, .int .i64 r.mark, .slice r.F r.fm r.fc, .slice r.R r.rm r.rc, .slice r.H r.hm r.hc, .slice SA sm sc, .bool dp], .int .i64 4, .slice A 3 c] w (ByP w (byC S dp ws)) := by
  obtain ⟨wa, hwa⟩ : ∃ wa, wa = w.alloc (.cells #[.int .i64 r.y.at_, .slice r.y.A r.y.n r.y.c, .int .i64 r.o.at_, .slice r.o.A r.o.n r.o.c, .int .i64 r.size, .int .i64 r.mark, .slice r.F r.fm r.fc, .slice r.R r.rm r.rc, .slice r.H r.hm r.hc, .slice SA sm sc, .bool dp] 72) := ⟨_, rfl⟩
  have hba : Below w.heap.size w wa := by rw [hwa]; exact (Below.refl _ w).alloc (Nat.le_refl _) _
  have hz := h.below hba
  have hSa := hS.below hba
  have xa : Lx wa w.heap.size r SA sm sc dp := ⟨by rw [hwa]; exact heap_alloc_new w _⟩
  obtain ⟨b, o, hA, _⟩ := hz.some (by omega)
  subst hA
  have y0 : wa.cell? ⟨b, o, none⟩ = some (.int .u64 (ws.getD 0 0)) := by simpa using hz.at_ (j := 0) (by omega)
  have y1 : wa.cell? ⟨b, o + 1, none⟩ = some (.int .u64 (ws.getD 1 0)) := hz.at_ (j := 1) (by omega)
  have y2 : wa.cell? ⟨b, o + 2, none⟩ = some (.int .u64 (ws.getD 2 0)) := hz.at_ (j := 2) (by omega)
  have hx0 := wf_u (hz.wfAt (j := 0) (by omega))
  have hx1 := wf_u (hz.wfAt (j := 1) (by omega))
  have hx2 := wf_u (hz.wfAt (j := 2) (by omega))
  have HQ0 := Lib.hid (fun (q : Nat) => Calls.quiet_of_same (w := wa) (n := q) ((small12_any (ws.getD 0 0) 1073741824 hx0 (by omega) (wa.drewN q)).mono fun _ _ h => ⟨h.1, h.2.symm⟩))
  have HQ1 := Lib.hid (fun (q : Nat) => Calls.quiet_of_same (w := wa) (n := q) ((small12_any (ws.getD 1 0) 1073741824 hx1 (by omega) (wa.drewN q)).mono fun _ _ h => ⟨h.1, h.2.symm⟩))
  have HQ2 := Lib.hid (fun (q : Nat) => Calls.quiet_of_same (w := wa) (n := q) ((small12_any (ws.getD 2 0) 400 hx2 (by omega) (wa.drewN q)).mono fun _ _ h => ⟨h.1, h.2.symm⟩))
  have hcm : c ≤ 9223372036854775807 := hz.cm
  have hnc := hz.nc
  have c9 := xa.c9
  have c10 := xa.c10
  have HB : Hid (∀ q, Below w.heap.size w (wa.drewN q)) := Lib.hid (fun q => ⟨hba.os, hba.tape, hba.output, hba.size, hba.block⟩)
  have hl : S.length = sm := hS.len
  have HSa := Lib.hid hSa
  unfold byC
  rcases sml_cases (ws.getD 0 0) 1073741824 with ⟨h0, e0⟩ | ⟨h0, e0⟩
  · rw [if_pos (by rw [e0]; exact .inl (by omega))]
    rw [e0] at HQ0
    clear h hS hSa hz hba xa hx0 hx1 hx2 e0
    generalize smlZ (ws.getD 1 0) 1073741824 = t1 at *
    generalize smlZ (ws.getD 2 0) 400 = t2 at *
    generalize ws.getD 0 0 = x0 at *
    generalize ws.getD 1 0 = x1 at *
    generalize ws.getD 2 0 = x2 at *
    go_enter Tryz.func73, Tryz.ntmps73
    go_upto_region 1 with fail
    rw [← hwa]
    clear hwa
    go_wp2_with fail
    go_quiet (first | (go_at_call 100; first | with_reducible exact HQ0.out _ | with_reducible exact HQ1.out _ | with_reducible exact HQ2.out _))
    go_wp2
    go_ret3
    exact ⟨rfl, HB.out _⟩
  · rcases sml_cases (ws.getD 1 0) 1073741824 with ⟨h1, e1⟩ | ⟨h1, e1⟩
    · rw [if_pos (by rw [e1]; exact .inr (.inl (by omega)))]
      rw [e0] at HQ0
      rw [e1] at HQ1
      clear h hS hSa hz hba xa hx1 hx2 e0 e1
      generalize smlZ (ws.getD 2 0) 400 = t2 at *
      generalize ws.getD 0 0 = x0 at *
      generalize ws.getD 1 0 = x1 at *
      generalize ws.getD 2 0 = x2 at *
      have hd1 : decide (x0 < 0) = false := decide_eq_false (by omega)
      go_enter Tryz.func73, Tryz.ntmps73
      go_upto_region 1 with fail
      rw [← hwa]
      clear hwa
      go_wp2_with fail
      go_quiet (first | (go_at_call 100; first | with_reducible exact HQ0.out _ | with_reducible exact HQ1.out _ | with_reducible exact HQ2.out _))
      clear hx0
      go_wp2
      go_ret3
      exact ⟨rfl, HB.out _⟩
    · rcases sml_cases (ws.getD 2 0) 400 with ⟨h2, e2⟩ | ⟨h2, e2⟩
      · rw [if_pos (by rw [e2]; exact .inr (.inr (by omega)))]
        rw [e0] at HQ0
        rw [e1] at HQ1
        rw [e2] at HQ2
        clear h hS hSa hz hba xa hx2 e0 e1 e2
        generalize ws.getD 0 0 = x0 at *
        generalize ws.getD 1 0 = x1 at *
        generalize ws.getD 2 0 = x2 at *
        have hd1 : decide (x0 < 0) = false := decide_eq_false (by omega)
        have hd2 : decide (x1 < 0) = false := decide_eq_false (by omega)
        go_enter Tryz.func73, Tryz.ntmps73
        go_upto_region 1 with fail
        rw [← hwa]
        clear hwa
        go_wp2_with fail
        go_quiet (first | (go_at_call 100; first | with_reducible exact HQ0.out _ | with_reducible exact HQ1.out _ | with_reducible exact HQ2.out _))
        clear hx0 hx1
        go_wp2
        go_ret3
        exact ⟨rfl, HB.out _⟩
      · rw [if_neg (by rw [e0, e1, e2]; omega)]
        rw [e0] at HQ0
        rw [e1] at HQ1
        rw [e2] at HQ2
        rw [e0, e1, e2]
        obtain ⟨k, hk⟩ : ∃ k : Nat, ws.getD 0 0 = (k : Int) := ⟨(ws.getD 0 0).toNat, by omega⟩
        obtain ⟨p, hp⟩ : ∃ p : Nat, ws.getD 1 0 = (p : Int) := ⟨(ws.getD 1 0).toNat, by omega⟩
        obtain ⟨m, hm⟩ : ∃ m : Nat, ws.getD 2 0 = (m : Int) := ⟨(ws.getD 2 0).toNat, by omega⟩
        rw [hk] at HQ0 y0 h0
        rw [hp] at HQ1 y1 h1
        rw [hm] at HQ2 y2 h2
        rw [hk, hp, hm, show ((k : Int)).toNat = k by omega]
        have hd1 : decide ((k : Int) < 0) = false := decide_eq_false (by omega)
        have hd2 : decide ((p : Int) < 0) = false := decide_eq_false (by omega)
        have hd3 : decide ((m : Int) < 0) = false := decide_eq_false (by omega)
        clear hk hp hm hx0 hx1 hx2 e0 e1 e2
        cases dp with
        | false =>
          rw [if_pos rfl]
          clear h hS hSa hz hba xa
          go_enter Tryz.func73, Tryz.ntmps73
          go_upto_region 1 with fail
          rw [← hwa]
          clear hwa
          go_wp2_with fail
          go_quiet (first | (go_at_call 100; first | with_reducible exact HQ0.out _ | with_reducible exact HQ1.out _ | with_reducible exact HQ2.out _))
          go_wp2
          go_ret3
          exact ⟨rfl, HB.out _⟩
        | true =>
          rw [if_neg (by simp)]
          by_cases g0 : (S.length : Int) ≤ (k : Int)
          · rw [if_pos (.inl g0)]
            have hd4 : decide ((sm : Int) ≤ (k : Int)) = true := decide_eq_true (by omega)
            clear h hS hSa hz hba xa
            go_enter Tryz.func73, Tryz.ntmps73
            go_upto_region 1 with fail
            rw [← hwa]
            clear hwa
            go_wp2_with fail
            go_quiet (first | (go_at_call 100; first | with_reducible exact HQ0.out _ | with_reducible exact HQ1.out _ | with_reducible exact HQ2.out _))
            go_wp2
            go_ret3
            exact ⟨rfl, HB.out _⟩
          · have hks : k < sm := by omega
            have hd4 : decide ((sm : Int) ≤ (k : Int)) = false := decide_eq_false (by omega)
            obtain ⟨bs, os, hSA, _⟩ := HSa.out.some (by omega)
            subst hSA
            obtain ⟨s0, s1, s2⟩ := HSa.out.at_ hks
            have htx := (HSa.out.wf k hks).2.2
            unfold maxLen at htx
            generalize gt S k = f at *
            by_cases g1 : f.ct = 0
            · rw [if_pos (.inr (.inl g1))]
              have hd5 : (f.ct == 0) = true := beq_iff_eq.2 g1
              clear h hS hSa hz hba xa
              go_enter Tryz.func73, Tryz.ntmps73
              go_upto_region 1 with fail
              rw [← hwa]
              clear hwa
              go_wp2_with fail
              go_quiet (first | (go_at_call 100; first | with_reducible exact HQ0.out _ | with_reducible exact HQ1.out _ | with_reducible exact HQ2.out _))
              go_wp2
              go_ret3
              exact ⟨rfl, HB.out _⟩
            · have hd5 : (f.ct == 0) = false := beq_eq_false_iff_ne.2 g1
              by_cases g2 : f.st ≠ (p : Int)
              · rw [if_pos (.inr (.inr (.inl g2)))]
                have hd6 : (f.st != (p : Int)) = true := bne_iff_ne.2 g2
                clear h hS hSa hz hba xa
                go_enter Tryz.func73, Tryz.ntmps73
                go_upto_region 1 with fail
                rw [← hwa]
                clear hwa
                go_wp2_with fail
                go_quiet (first | (go_at_call 100; first | with_reducible exact HQ0.out _ | with_reducible exact HQ1.out _ | with_reducible exact HQ2.out _))
                go_wp2
                go_ret3
                exact ⟨rfl, HB.out _⟩
              · have hd6 : (f.st != (p : Int)) = false := by simpa using g2
                by_cases g3 : (f.tx.size : Int) ≠ (m : Int)
                · rw [if_pos (.inr (.inr (.inr g3)))]
                  have hd7 : ((f.tx.size : Int) != (m : Int)) = true := bne_iff_ne.2 g3
                  clear h hS hSa hz hba xa
                  go_enter Tryz.func73, Tryz.ntmps73
                  go_upto_region 1 with fail
                  rw [← hwa]
                  clear hwa
                  go_wp2_with fail
                  go_quiet (first | (go_at_call 100; first | with_reducible exact HQ0.out _ | with_reducible exact HQ1.out _ | with_reducible exact HQ2.out _))
                  go_wp2
                  go_ret3
                  exact ⟨rfl, HB.out _⟩
                · have hd7 : ((f.tx.size : Int) != (m : Int)) = false := by simpa using g3
                  rw [if_neg (by rintro (e | e | e | e); exact g0 e; exact g1 e; exact g2 e; exact g3 e)]
                  clear g0 g1 g2 g3
                  clear h hS hSa hz hba xa
                  go_enter Tryz.func73, Tryz.ntmps73
                  go_upto_region 1 with fail
                  rw [← hwa]
                  clear hwa
                  go_wp2_with fail
                  go_quiet (first | (go_at_call 100; first | with_reducible exact HQ0.out _ | with_reducible exact HQ1.out _ | with_reducible exact HQ2.out _))
                  go_wp2
                  go_ret3
                  exact ⟨rfl, HB.out _⟩
end
end Go.Proofs.YtejmmjedognaaaaGreat

namespace Go.Proofs.YtejmmjedognaaaaGreat
open Go.RowKit
open St

section
variable {w : World} {r : DR} {SA : Option Addr} {sm sc : Nat} {S : List Slt} {dp : Bool} {A : Option Addr} {n c : Nat} {ws : List Int}
set_option maxRecDepth 100000 in
set_option maxRecDepth 100000 in
set_option maxHeartbeats 4000000 in
theorem bytes12_none (kd : Int) (h1 : ¬ (kd = 3 ∧ 1 ≤ n)) (h2 : ¬ (kd = 4 ∧ n = 3)) (hn : n ≤ 1000) :
    Calls Tryz.prog 73 #[.agg #[.int .i64 r.y.at_, .slice r.y.A r.y.n r.y.c, .int .i64 r.o.at_, .slice r.o.A r.o.n r.o.c, .int .i64 r.size, .int .i64 r.mark, .slice r.F r.fm r.fc, .slice r.R r.rm r.rc, .slice r.H r.hm r.hc, .slice SA sm sc, .bool dp], .int .i64 kd, .slice A n c] w (ByP w (⟨#[]⟩, 0, false)) := by
  have hb : ∀ o : Obj, Below w.heap.size w (w.alloc o) := fun o => (Below.refl _ w).alloc (Nat.le_refl _) o
  replace hb := Lib.hid hb
  by_cases e3 : kd = 3
  · subst e3
    have hd2 : decide ((1 : Int) ≤ (n : Int)) = false := decide_eq_false (by omega)
    clear h1 h2
    go_enter Tryz.func73, Tryz.ntmps73
    go_wp2
    go_ret3
    exact ⟨rfl, hb.out _⟩
  · have hd1 : (kd == 3) = false := beq_eq_false_iff_ne.2 e3
    by_cases e4 : kd = 4
    · subst e4
      have hd2 : ((n : Int) == 3) = false := beq_eq_false_iff_ne.2 (by omega)
      clear h1 h2 e3
      go_enter Tryz.func73, Tryz.ntmps73
      go_wp2
      go_ret3
      exact ⟨rfl, hb.out _⟩
    · have hd2 : (kd == 4) = false := beq_eq_false_iff_ne.2 e4
      clear h1 h2 e3 e4
      go_enter Tryz.func73, Tryz.ntmps73
      go_wp2
      go_ret3
      exact ⟨rfl, hb.out _⟩
set_option maxRecDepth 100000 in
theorem bytes12_any (kd : Int) (h : Zs .u64 w A n c ws) (hn : n ≤ 1000) (hS : SLs w SA sm sc S) (hsm : sm ≤ 1000) :
    Calls Tryz.prog 73 #[.agg #[.int .i64 r.y.at_, .slice r.y.A r.y.n r.y.c, .int .i64 r.o.at_, .slice r.o.A r.o.n r.o.c, .int .i64 r.size, .int .i64 r.mark, .slice r.F r.fm r.fc, .slice r.R r.rm r.rc, .slice r.H r.hm r.hc, .slice SA sm sc, .bool dp], .int .i64 kd, .slice A n c] w (ByP w (byR S dp kd ws)) := by
  unfold byR
  rw [h.len]
  by_cases h1 : kd = 3 ∧ 1 ≤ n
  · rw [if_pos h1, h1.1]
    exact bytes12_H h hn h1.2
  · rw [if_neg h1]
    by_cases h2 : kd = 4 ∧ n = 3
    · rw [if_pos h2, h2.1]
      obtain ⟨_, rfl⟩ := h2
      exact bytes12_C h hS hsm
    · rw [if_neg h2]
      exact bytes12_none kd h1 h2 hn
end

set_option maxRecDepth 100000 in
theorem str_size (l : List Nat) : (Wr.str l).size = l.length := by simp [Wr.str, ByteArray.size]
set_option maxRecDepth 100000 in
/-- What bytes tells is as long as it says. -/
theorem byR_ok {S : List Slt} {dp : Bool} {kd : Int} {ws : List Int} (h : (byR S dp kd ws).2.2 = true) : (0 ≤ (byR S dp kd ws).2.1 ∧ (byR S dp kd ws).2.1 ≤ 400) ∧ (¬ (dp = false ∧ kd = 4) → (((byR S dp kd ws).1.size : Nat) : Int) = (byR S dp kd ws).2.1) := by
  unfold byR at h ⊢
  split at h
  · next h3 =>
    rw [if_pos h3]
    unfold byH at h ⊢
    split at h
    · cases h
    · next h4 =>
      rw [if_neg h4]
      cases hp : pkO (ws.drop 1) (smlZ (ws.getD 0 0) 64).toNat with
      | none => rw [hp] at h; cases h
      | some l =>
        simp only
        have hs := sml_cases (ws.getD 0 0) 64
        refine ⟨by omega, fun _ => ?_⟩
        rw [str_size]
        unfold pkO at hp
        split at hp
        · next h5 =>
          injection hp with hp
          rw [← hp, List.length_take, byts_len]
          have := h5.1
          omega
        · cases hp
  · next h3 =>
    rw [if_neg h3]
    split at h
    · next h4 =>
      rw [if_pos h4]
      unfold byC at h ⊢
      have hs := sml_cases (ws.getD 2 0) 400
      split at h
      · cases h
      · next h5 =>
        rw [if_neg h5]
        split at h
        · next h6 =>
          rw [if_pos h6]
          exact ⟨by simp only; omega, fun hh => absurd ⟨h6, h4.1⟩ hh⟩
        · next h6 =>
          rw [if_neg h6]
          split at h
          · cases h
          · next h7 =>
            rw [if_neg h7]
            refine ⟨by simp only; omega, fun _ => ?_⟩
            simp only
            omega
    · cases h
end Go.Proofs.YtejmmjedognaaaaGreat

namespace Go.Proofs.YtejmmjedognaaaaGreat
open Go.RowKit
open St

set_option maxRecDepth 100000 in
theorem box12_none {w : World} {r : DR} {d : Dmp} (h : DV w r d) (hm : r.fm ≤ 1000) (SA : Option Addr) (sm sc : Nat) (dp : Bool) (x : Int) (hx : Wd x) (hN : boxO (d.y :: d.o :: d.fs) x = none) :
    Calls Tryz.prog 72 #[.agg #[.int .i64 r.y.at_, .slice r.y.A r.y.n r.y.c, .int .i64 r.o.at_, .slice r.o.A r.o.n r.o.c, .int .i64 r.size, .int .i64 r.mark, .slice r.F r.fm r.fc, .slice r.R r.rm r.rc, .slice r.H r.hm r.hc, .slice SA sm sc, .bool dp], .int .u64 x] w fun e w' => e = .returned (.tuple #[.int .i64 0, .slice none 0 0, .bool false]) ∧ Below w.heap.size w w' :=
  (box12_any h hm SA sm sc dp x hx).mono fun e w' hh => by
    obtain ⟨⟨_, rfl⟩ | ⟨k, ws, A, n, c, hk, _⟩, hb⟩ := hh
    · exact ⟨rfl, hb⟩
    · rw [hN] at hk; cases hk
set_option maxRecDepth 100000 in
theorem box12_some {w : World} {r : DR} {d : Dmp} (h : DV w r d) (hm : r.fm ≤ 1000) (SA : Option Addr) (sm sc : Nat) (dp : Bool) (x : Int) (hx : Wd x) {k : Int} {ws : List Int} (hN : boxO (d.y :: d.o :: d.fs) x = some (k, ws)) :
    Calls Tryz.prog 72 #[.agg #[.int .i64 r.y.at_, .slice r.y.A r.y.n r.y.c, .int .i64 r.o.at_, .slice r.o.A r.o.n r.o.c, .int .i64 r.size, .int .i64 r.mark, .slice r.F r.fm r.fc, .slice r.R r.rm r.rc, .slice r.H r.hm r.hc, .slice SA sm sc, .bool dp], .int .u64 x] w fun e w' => ∃ A n c, e = .returned (.tuple #[.int .i64 k, .slice A n c, .bool true]) ∧ Zs .u64 w' A n c ws ∧ Below w.heap.size w w' :=
  (box12_any h hm SA sm sc dp x hx).mono fun e w' hh => by
    obtain ⟨⟨hk, _⟩ | ⟨k', ws', A, n, c, hk, rfl, hz, _⟩, hb⟩ := hh
    · rw [hN] at hk; cases hk
    · rw [hN] at hk
      injection hk with hk
      injection hk with e1 e2
      subst e1 e2
      exact ⟨A, n, c, rfl, hz, hb⟩

/-- A HeadSub's. -/
def sbZ (S : List Slt) (dp : Bool) (f m : Int) : Option (Int × List Int) → ByteArray × Bool
  | none => (⟨#[]⟩, false)
  | some (kd, base) =>
    if f < 0 ∨ m < 0 then (⟨#[]⟩, false)
    else if (byR S dp kd base).2.2 = false ∨ (byR S dp kd base).2.1 - f < m then (⟨#[]⟩, false)
    else if dp = false ∧ kd = 4 then (⟨#[]⟩, true)
    else ((byR S dp kd base).1.extract f.toNat (f.toNat + m.toNat), true)
def subR (gs : List Frg) (S : List Slt) (dp : Bool) (ws : List Int) : ByteArray × Bool :=
  if ws.length ≠ 3 then (⟨#[]⟩, false) else sbZ S dp (smlZ (ws.getD 1 0) 400) (smlZ (ws.getD 2 0) 400) (boxO gs (ws.getD 0 0))
def SuP (w : World) (x : ByteArray × Bool) (e : Ending) (w' : World) : Prop := e = .returned (.tuple #[.string x.1, .bool x.2]) ∧ Below w.heap.size w w'

set_option maxRecDepth 100000 in
theorem atL_len {gs : List Frg} {a : Int} {M : Nat} (h : ∀ f ∈ gs, f.ws.length ≤ M) : (atL gs a).length ≤ M := by
  induction gs with
  | nil => exact Nat.zero_le _
  | cons f gs ih =>
    unfold atL
    split
    · rw [List.length_drop]
      have := h f (by simp)
      omega
    · exact ih (fun g hg => h g (by simp [hg]))
set_option maxRecDepth 100000 in
theorem boxO_len {gs : List Frg} {x : Int} {M : Nat} (h : ∀ f ∈ gs, f.ws.length ≤ M) {kd : Int} {ws : List Int} (hb : boxO gs x = some (kd, ws)) : ws.length ≤ M := by
  have h1 := atL_len (a := ldZ x) h
  unfold boxO at hb
  cases hz : atL gs (ldZ x) with
  | nil => rw [hz] at hb; cases hb
  | cons a t =>
    rw [hz] at hb h1
    have e : boxZ x (a :: t) = if x % 8 = 4 ∧ ptB a = true ∧ a / 64 ≤ (t.length : Int) then some (a / 8 % 8, t.take (a / 64).toNat) else none := rfl
    rw [e] at hb
    by_cases hc : x % 8 = 4 ∧ ptB a = true ∧ a / 64 ≤ (t.length : Int)
    · rw [if_pos hc] at hb
      injection hb with hb
      injection hb with _ hb
      rw [← hb, List.length_take]
      simp at h1
      omega
    · rw [if_neg hc] at hb
      cases hb

section
variable {w : World} {r : DR} {d : Dmp} {SA : Option Addr} {sm sc : Nat} {S : List Slt} {dp : Bool} {A : Option Addr} {n c : Nat} {ws : List Int}
set_option maxRecDepth 100000 in
set_option maxRecDepth 100000 in
set_option maxHeartbeats 8000000 in
theorem sub12_any (h : DV w r d) (hm : r.fm ≤ 1000) (hS : SLs w SA sm sc S) (hsm : sm ≤ 1000) (hz : Zs .u64 w A n c ws) (hn : n ≤ 1000) (hgs : ∀ f ∈ d.y :: d.o :: d.fs, f.ws.length ≤ 1000) :
    Calls Tryz.prog 122 #[.agg #[.int .i64 r.y.at_, .slice r.y.A r.y.n r.y.c, .int .i64 r.o.at_, .slice r.o.A r.o.n r.o.c, .int .i64 r.size, .int .i64 r.mark, .slice r.F r.fm r.fc, .slice r.R r.rm r.rc, .slice r.H r.hm r.hc, .slice SA sm sc, .bool dp], .slice A n c] w (SuP w (subR (d.y :: d.o :: d.fs) S dp ws)) := by
  obtain ⟨wa, hwa⟩ : ∃ wa, wa = w.alloc (.cells #[.int .i64 r.y.at_, .slice r.y.A r.y.n r.y.c, .int .i64 r.o.at_, .slice r.o.A r.o.n r.o.c, .int .i64 r.size, .int .i64 r.mark, .slice r.F r.fm r.fc, .slice r.R r.rm r.rc, .slice r.H r.hm r.hc, .slice SA sm sc, .bool dp] 72) := ⟨_, rfl⟩
  have hba : Below w.heap.size w wa := by rw [hwa]; exact (Below.refl _ w).alloc (Nat.le_refl _) _
  have HB : Hid (∀ w', Below wa.heap.size wa w' → Below w.heap.size w w') := Lib.hid (fun w' hb => hba.trans (hb.mono hba.size))
  have hl := hz.len
  unfold subR
  rw [hl]
  by_cases h3 : n = 3
  · subst h3
    rw [if_neg (by simp)]
    have va := h.below hba
    have za := hz.below hba
    have sa := hS.below hba
    have xa : Lx wa w.heap.size r SA sm sc dp := ⟨by rw [hwa]; exact heap_alloc_new w _⟩
    obtain ⟨b, o, hA, _⟩ := za.some (by omega)
    subst hA
    have hx0 := wf_u (za.wfAt (j := 0) (by omega))
    have hx1 := wf_u (za.wfAt (j := 1) (by omega))
    have hx2 := wf_u (za.wfAt (j := 2) (by omega))
    have hcm : c ≤ 9223372036854775807 := za.cm
    have hnc := za.nc
    have KA : Hid (∀ w', Below wa.heap.size wa w' → (w'.cell? ⟨b, o, none⟩ = some (.int .u64 (ws.getD 0 0)) ∧ w'.cell? ⟨b, o + 1, none⟩ = some (.int .u64 (ws.getD 1 0)) ∧ w'.cell? ⟨b, o + 2, none⟩ = some (.int .u64 (ws.getD 2 0))) ∧ Lx w' w.heap.size r SA sm sc dp ∧ SLs w' SA sm sc S) := Lib.hid (fun w' hb => by
      have z' := za.below hb
      exact ⟨⟨by simpa using z'.at_ (j := 0) (by omega), z'.at_ (j := 1) (by omega), z'.at_ (j := 2) (by omega)⟩, xa.below hb xa.lt, sa.below hb⟩)
    have HQ : Hid (∀ (w1 : World) (q : Nat), Calls Tryz.prog 100 #[.int .u64 (ws.getD 1 0), .int .i64 400] (w1.drewN q) fun e w'' => e = .returned (.int .i64 (smlZ (ws.getD 1 0) 400)) ∧ ∃ m, w'' = w1.drewN m) := Lib.hid (fun w1 q => Calls.quiet_of_same (w := w1) (n := q) ((small12_any (ws.getD 1 0) 400 hx1 (by omega) (w1.drewN q)).mono fun _ _ h => ⟨h.1, h.2.symm⟩))
    have HQ2 : Hid (∀ (w1 : World) (q : Nat), Calls Tryz.prog 100 #[.int .u64 (ws.getD 2 0), .int .i64 400] (w1.drewN q) fun e w'' => e = .returned (.int .i64 (smlZ (ws.getD 2 0) 400)) ∧ ∃ m, w'' = w1.drewN m) := Lib.hid (fun w1 q => Calls.quiet_of_same (w := w1) (n := q) ((small12_any (ws.getD 2 0) 400 hx2 (by omega) (w1.drewN q)).mono fun _ _ h => ⟨h.1, h.2.symm⟩))
    have hf := sml_cases (ws.getD 1 0) 400
    have hmm := sml_cases (ws.getD 2 0) 400
    have hfb : -1 ≤ smlZ (ws.getD 1 0) 400 ∧ smlZ (ws.getD 1 0) 400 ≤ 400 := by have := hx1.1; omega
    have hmb : -1 ≤ smlZ (ws.getD 2 0) 400 ∧ smlZ (ws.getD 2 0) 400 ≤ 400 := by have := hx2.1; omega
    clear hf hmm hx1 hx2
    cases hbx : boxO (d.y :: d.o :: d.fs) (ws.getD 0 0) with
    | none =>
      have HBx := Lib.hid (box12_none (va.drewN 1) hm SA sm sc dp (ws.getD 0 0) hx0 hbx)
      clear hbx h hS hz va za sa xa hba hx0 hl
      generalize smlZ (ws.getD 1 0) 400 = f at *
      generalize smlZ (ws.getD 2 0) 400 = m at *
      generalize ws.getD 0 0 = x0 at *
      generalize ws.getD 1 0 = x1 at *
      generalize ws.getD 2 0 = x2 at *
      go_enter Tryz.func122, Tryz.ntmps122
      go_upto_region 1 with fail
      rw [← hwa]
      clear hwa
      generalize hD : w.heap.size = D at *
      go_wp2_with fail
      go_region_held3 (fun w' => w'.cell? ⟨b, o, none⟩ = some (.int .u64 x0) ∧ w'.cell? ⟨D, 0, none⟩ = some (.int .i64 r.y.at_) ∧ w'.cell? ⟨D, 1, none⟩ = some (.slice r.y.A r.y.n r.y.c) ∧ w'.cell? ⟨D, 2, none⟩ = some (.int .i64 r.o.at_) ∧ w'.cell? ⟨D, 3, none⟩ = some (.slice r.o.A r.o.n r.o.c) ∧ w'.cell? ⟨D, 4, none⟩ = some (.int .i64 r.size) ∧ w'.cell? ⟨D, 5, none⟩ = some (.int .i64 r.mark) ∧ w'.cell? ⟨D, 6, none⟩ = some (.slice r.F r.fm r.fc) ∧ w'.cell? ⟨D, 7, none⟩ = some (.slice r.R r.rm r.rc) ∧ w'.cell? ⟨D, 8, none⟩ = some (.slice r.H r.hm r.hc) ∧ w'.cell? ⟨D, 9, none⟩ = some (.slice SA sm sc) ∧ w'.cell? ⟨D, 10, none⟩ = some (.bool dp))
        (first | exact ⟨(KA.out wa (Below.refl _ _)).1.1, (KA.out wa (Below.refl _ _)).2.1.all⟩ | exact ⟨(KA.out (wa.drewN 1) (bel_drewN wa 1)).1.1, (KA.out (wa.drewN 1) (bel_drewN wa 1)).2.1.all⟩ | exact ⟨(KA.out w3 hb3).1.1, (KA.out w3 hb3).2.1.all⟩)
        (first
          | (go_at_call 72; refine HBx.out.mono ?_; rintro e w3 ⟨rfl, hb⟩; have hb3 : Below wa.heap.size wa w3 := (bel_drewN wa 1).trans hb))
      have F := KA.out w3 hb3
      obtain ⟨⟨_, g1, g2⟩, F2, _⟩ := F
      have HE := Lib.hid (HB.out _ hb3)
      clear F2
      rename_i hfx
      clear hfx
      go_wp2_with fail
      go_quiet (first | (go_at_call 100; first | with_reducible exact HQ.out _ _ | with_reducible exact HQ2.out _ _))
      go_wp2
      go_ret2
      exact ⟨rfl, by rw [← hD] at *; exact ⟨HE.out.os, HE.out.tape, HE.out.output, HE.out.size, HE.out.block⟩⟩
    | some kb =>
      obtain ⟨kd, base⟩ := kb
      have HBx := Lib.hid (box12_some (va.drewN 1) hm SA sm sc dp (ws.getD 0 0) hx0 hbx)
      have HLN : Hid (base.length ≤ 1000) := Lib.hid (boxO_len hgs hbx)
      clear hbx h hS hz va za sa xa hba hx0 hl hgs
      generalize smlZ (ws.getD 1 0) 400 = f at *
      generalize smlZ (ws.getD 2 0) 400 = m at *
      generalize ws.getD 0 0 = x0 at *
      generalize ws.getD 1 0 = x1 at *
      generalize ws.getD 2 0 = x2 at *
      go_enter Tryz.func122, Tryz.ntmps122
      go_upto_region 1 with fail
      rw [← hwa]
      clear hwa
      generalize hD : w.heap.size = D at *
      go_wp2_with fail
      go_region_held3 (fun w' => w'.cell? ⟨b, o, none⟩ = some (.int .u64 x0) ∧ w'.cell? ⟨D, 0, none⟩ = some (.int .i64 r.y.at_) ∧ w'.cell? ⟨D, 1, none⟩ = some (.slice r.y.A r.y.n r.y.c) ∧ w'.cell? ⟨D, 2, none⟩ = some (.int .i64 r.o.at_) ∧ w'.cell? ⟨D, 3, none⟩ = some (.slice r.o.A r.o.n r.o.c) ∧ w'.cell? ⟨D, 4, none⟩ = some (.int .i64 r.size) ∧ w'.cell? ⟨D, 5, none⟩ = some (.int .i64 r.mark) ∧ w'.cell? ⟨D, 6, none⟩ = some (.slice r.F r.fm r.fc) ∧ w'.cell? ⟨D, 7, none⟩ = some (.slice r.R r.rm r.rc) ∧ w'.cell? ⟨D, 8, none⟩ = some (.slice r.H r.hm r.hc) ∧ w'.cell? ⟨D, 9, none⟩ = some (.slice SA sm sc) ∧ w'.cell? ⟨D, 10, none⟩ = some (.bool dp))
        (first | exact ⟨(KA.out wa (Below.refl _ _)).1.1, (KA.out wa (Below.refl _ _)).2.1.all⟩ | exact ⟨(KA.out (wa.drewN 1) (bel_drewN wa 1)).1.1, (KA.out (wa.drewN 1) (bel_drewN wa 1)).2.1.all⟩ | exact ⟨(KA.out w3 hb3).1.1, (KA.out w3 hb3).2.1.all⟩)
        (first
          | (go_at_call 72; refine HBx.out.mono ?_; rintro e w3 ⟨A2, n2, c2, rfl, hz3, hb⟩; have hb3 : Below wa.heap.size wa w3 := (bel_drewN wa 1).trans hb))
      have F := KA.out w3 hb3
      obtain ⟨⟨_, g1, g2⟩, F2, F3⟩ := F
      have HE := Lib.hid (HB.out _ hb3)
      rename_i hfx
      clear hfx
      have hn2 : n2 ≤ 1000 := by rw [← hz3.len]; exact HLN.out
      have HBy := Lib.hid (fun (q : Nat) => bytes12_any (r := r) (dp := dp) kd (hz3.drewN q) hn2 (F3.drewN q) hsm)
      have hok := Lib.hid (@byR_ok S dp kd base)
      have hc10 := F2.c10
      clear hz3 F3 hb
      have u0 := F2.c0
      have u1 := F2.c1
      have u2 := F2.c2
      have u3 := F2.c3
      have u4 := F2.c4
      have u5 := F2.c5
      have u6 := F2.c6
      have u7 := F2.c7
      have u8 := F2.c8
      have u9 := F2.c9
      by_cases hf0 : f < 0
      · have hd4 : decide (f < 0) = true := decide_eq_true hf0
        have HV := Lib.hid (show sbZ S dp f m (some (kd, base)) = (⟨#[]⟩, false) from if_pos (.inl hf0))
        clear F2 HBy hok
        go_wp2_with fail
        go_quiet (first | (go_at_call 100; first | with_reducible exact HQ.out _ _ | with_reducible exact HQ2.out _ _))
        go_wp2
        go_ret2
        exact ⟨by rw [HV.out]; rfl, by rw [hD]; exact ⟨HE.out.os, HE.out.tape, HE.out.output, HE.out.size, HE.out.block⟩⟩
      · have hd4 : decide (f < 0) = false := decide_eq_false hf0
        by_cases hm0 : m < 0
        · have hd5 : decide (m < 0) = true := decide_eq_true hm0
          have HV := Lib.hid (show sbZ S dp f m (some (kd, base)) = (⟨#[]⟩, false) from if_pos (.inr hm0))
          clear F2 HBy hok
          go_wp2_with fail
          go_quiet (first | (go_at_call 100; first | with_reducible exact HQ.out _ _ | with_reducible exact HQ2.out _ _))
          go_wp2
          go_ret2
          exact ⟨by rw [HV.out]; rfl, by rw [hD]; exact ⟨HE.out.os, HE.out.tape, HE.out.output, HE.out.size, HE.out.block⟩⟩
        · have hd5 : decide (m < 0) = false := decide_eq_false hm0
          have HW := (show sbZ S dp f m (some (kd, base)) = (if (byR S dp kd base).2.2 = false ∨ (byR S dp kd base).2.1 - f < m then (⟨#[]⟩, false) else if dp = false ∧ kd = 4 then (⟨#[]⟩, true) else ((byR S dp kd base).1.extract f.toNat (f.toNat + m.toNat), true)) from if_neg (by omega))
          have HE2 : Hid (∀ q w5, Below (w3.drewN q).heap.size (w3.drewN q) w5 → Below D w w5) := Lib.hid (fun q w5 hb => (HB.out _ (hb3.trans (⟨hb.os, hb.tape, hb.output, hb.size, fun k hk => hb.block k (Nat.lt_of_lt_of_le hk hb3.size)⟩ : Below wa.heap.size w3 w5))))
          replace hok := hok.out
          generalize byR S dp kd base = R3 at *
          obtain ⟨s, nn, fine⟩ := R3
          simp only at hok HW
          cases fine with
          | false =>
            have HV := Lib.hid (HW.trans (if_pos (.inl rfl)))
            clear hok HW
            go_wp2_with fail
            go_quiet (first | (go_at_call 100; first | with_reducible exact HQ.out _ _ | with_reducible exact HQ2.out _ _))
            go_wp2_with (go_at_call 73; (with_reducible refine (HBy.out _).mono ?_); rintro e w5 ⟨rfl, hb5⟩; have v10 := (F2.below (D := D) (B := w3.heap.size) (((⟨rfl, rfl, rfl, Nat.le_refl _, fun _ _ => rfl⟩ : Below w3.heap.size w3 (w3.drewN _)).trans (⟨hb5.os, hb5.tape, hb5.output, hb5.size, hb5.block⟩ : Below w3.heap.size (w3.drewN _) w5))) F2.lt).c10; replace hb5 := Lib.hid hb5)
            go_ret2
            exact ⟨by rw [HV.out]; rfl, by rw [hD]; exact HE2.out _ _ hb5.out⟩
          | true =>
            obtain ⟨hn0, hsz⟩ := hok rfl
            by_cases hgt : nn - f < m
            · have hd6 : decide (nn - f < m) = true := decide_eq_true hgt
              have HV := Lib.hid (HW.trans (if_pos (.inr hgt)))
              clear hsz
              clear hok HW
              go_wp2_with fail
              go_quiet (first | (go_at_call 100; first | with_reducible exact HQ.out _ _ | with_reducible exact HQ2.out _ _))
              go_wp2_with (go_at_call 73; (with_reducible refine (HBy.out _).mono ?_); rintro e w5 ⟨rfl, hb5⟩; have v10 := (F2.below (D := D) (B := w3.heap.size) (((⟨rfl, rfl, rfl, Nat.le_refl _, fun _ _ => rfl⟩ : Below w3.heap.size w3 (w3.drewN _)).trans (⟨hb5.os, hb5.tape, hb5.output, hb5.size, hb5.block⟩ : Below w3.heap.size (w3.drewN _) w5))) F2.lt).c10; replace hb5 := Lib.hid hb5)
              go_ret2
              exact ⟨by rw [HV.out]; rfl, by rw [hD]; exact HE2.out _ _ hb5.out⟩
            · have hd6 : decide (nn - f < m) = false := decide_eq_false hgt
              rw [if_neg (by simp; omega)] at HW
              by_cases hdk : dp = false ∧ kd = 4
              · have HV := Lib.hid (HW.trans (if_pos hdk))
                obtain ⟨hdp, hkd⟩ := hdk
                subst hdp hkd
                clear hsz
                clear hok HW
                go_wp2_with fail
                go_quiet (first | (go_at_call 100; first | with_reducible exact HQ.out _ _ | with_reducible exact HQ2.out _ _))
                go_wp2_with (go_at_call 73; (with_reducible refine (HBy.out _).mono ?_); rintro e w5 ⟨rfl, hb5⟩; have v10 := (F2.below (D := D) (B := w3.heap.size) (((⟨rfl, rfl, rfl, Nat.le_refl _, fun _ _ => rfl⟩ : Below w3.heap.size w3 (w3.drewN _)).trans (⟨hb5.os, hb5.tape, hb5.output, hb5.size, hb5.block⟩ : Below w3.heap.size (w3.drewN _) w5))) F2.lt).c10; replace hb5 := Lib.hid hb5)
                go_ret2
                exact ⟨by rw [HV.out]; rfl, by rw [hD]; exact HE2.out _ _ hb5.out⟩
              · have HV := Lib.hid (HW.trans (if_neg hdk))
                have hsz2 := hsz hdk
                clear hsz
                obtain ⟨fk, rfl⟩ : ∃ fk : Nat, f = (fk : Int) := ⟨f.toNat, by omega⟩
                obtain ⟨mk, rfl⟩ : ∃ mk : Nat, m = (mk : Int) := ⟨m.toNat, by omega⟩
                have hA1 : (fk : Int) + (mk : Int) ≤ (s.size : Int) := by omega
                have hA2 : (fk : Int) ≤ (fk : Int) + (mk : Int) := by omega
                have hA3 : fk + mk ≤ s.size := by omega
                have hA4 : (0 : Int) ≤ (fk : Int) + (mk : Int) := by omega
                clear hok HW
                cases dp with
                | true =>
                  go_wp2_with fail
                  go_quiet (first | (go_at_call 100; first | with_reducible exact HQ.out _ _ | with_reducible exact HQ2.out _ _))
                  go_wp2_with (go_at_call 73; (with_reducible refine (HBy.out _).mono ?_); rintro e w5 ⟨rfl, hb5⟩; have v10 := (F2.below (D := D) (B := w3.heap.size) (((⟨rfl, rfl, rfl, Nat.le_refl _, fun _ _ => rfl⟩ : Below w3.heap.size w3 (w3.drewN _)).trans (⟨hb5.os, hb5.tape, hb5.output, hb5.size, hb5.block⟩ : Below w3.heap.size (w3.drewN _) w5))) F2.lt).c10; replace hb5 := Lib.hid hb5)
                  go_ret2
                  exact ⟨by rw [HV.out]; rfl, by rw [hD]; exact HE2.out _ _ hb5.out⟩
                | false =>
                  have hd7 : (kd == 4) = false := beq_eq_false_iff_ne.2 (fun e => hdk ⟨rfl, e⟩)
                  clear hdk
                  go_wp2_with fail
                  go_quiet (first | (go_at_call 100; first | with_reducible exact HQ.out _ _ | with_reducible exact HQ2.out _ _))
                  go_wp2_with (go_at_call 73; (with_reducible refine (HBy.out _).mono ?_); rintro e w5 ⟨rfl, hb5⟩; have v10 := (F2.below (D := D) (B := w3.heap.size) (((⟨rfl, rfl, rfl, Nat.le_refl _, fun _ _ => rfl⟩ : Below w3.heap.size w3 (w3.drewN _)).trans (⟨hb5.os, hb5.tape, hb5.output, hb5.size, hb5.block⟩ : Below w3.heap.size (w3.drewN _) w5))) F2.lt).c10; replace hb5 := Lib.hid hb5)
                  go_ret2
                  exact ⟨by rw [HV.out]; rfl, by rw [hD]; exact HE2.out _ _ hb5.out⟩
  · rw [if_pos h3]
    have hd1 : ((n : Int) != 3) = true := bne_iff_ne.2 (by omega)
    clear h hS hz hl
    go_enter Tryz.func122, Tryz.ntmps122
    go_upto_region 1 with fail
    rw [← hwa]
    clear hwa
    go_wp2
    go_ret2
    exact ⟨rfl, HB.out _ (Below.refl _ _)⟩
end
end Go.Proofs.YtejmmjedognaaaaGreat
