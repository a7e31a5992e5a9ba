/-
  THE LAW RealNums.
-/
import Derived.Test.YtgencmjdejgkoaaFltU
namespace Go.Proofs.Ytgencmjdejgkoaa
open Go.RowKit

theorem cl_ofR (g : Bool) (l : List Nat) : Cl ((ofR g l : Nat) : Int) := by
  have hw : ∀ h : Bool, Cl ((Ieee.double.word h (Fl.ofN (Lm.val l)) : Nat) : Int) := fun h => by
    refine ⟨U64.mk (word_lt2 h _), fun hn => ?_⟩
    rw [Int.toNat_natCast] at hn
    unfold Fl.nanB at hn
    rw [Fl.word_rg (Fl.ofN_lt _), decide_eq_true_iff] at hn
    have := Fl.ofN_le (Lm.val l)
    omega
  unfold ofR
  split
  · exact hw g
  · exact ⟨by unfold U64; decide, fun hn => absurd hn (by decide)⟩

set_option maxRecDepth 100000 in
set_option maxHeartbeats 8000000 in
theorem realNums_walk (w : World) (g : Bool) (A : Option Addr) (n c : Nat) (l : List Nat) (h : Raw w A n c l) (b : Int) (hb : U64 b) :
    Calls Try.prog 4 #[.agg #[.bool g, .slice A n c], .int .u64 b] w fun e w' => e = .returned (.bool true) ∧ Below w.heap.size w w' := by
  have hbx := Box.new w (.bool g) (.slice A n c)
  have hb0 := (Below.refl w.heap.size w).alloc (Nat.le_refl _) (.cells #[.bool g, .slice A n c] 31)
  have hR0 := h.below hb0
  have hcl := fun w => refClean_any w b hb
  have hcB := cl_clean hb
  have hcF := cl_ofR g l
  generalize hW : w.alloc (.cells #[.bool g, .slice A n c] 31) = W at *
  have x0 := hbx.c0
  have x1 := hbx.c1
  generalize cleanI b = B at *
  by_cases hg : 40 < n
  · go_enter Try.func4, Try.ntmps4
    go_wp2_with fail
    refine (great_any _ g A n c).mono ?_
    rw [decide_eq_true hg]
    rintro e w1 ⟨rfl, hb1⟩
    go_wp2_with fail
    refine (awake_flt _).mono ?_
    rintro e w2 ⟨rfl, hb2⟩
    go_wp2
    go_ret
    have e1 := hb0.trans (hb1.mono hb0.size)
    exact ⟨rfl, e1.trans (hb2.mono e1.size)⟩
  · go_enter Try.func4, Try.ntmps4
    go_wp2_with fail
    refine (great_any _ g A n c).mono ?_
    rw [decide_eq_false hg]
    rintro e w1 ⟨rfl, hb1⟩
    go_wp2_with fail
    refine (hcl _).mono ?_
    rintro e w' ⟨rfl, rfl⟩
    go_wp2_with fail
    have qq : Box w1.drew w.heap.size (.bool g) (.slice A n c) := hbx.below' hb1.drew
    have rr : Raw w1.drew A n c l := hR0.below hb1.drew
    have ee : Below w.heap.size w w1.drew := (hb0.trans (hb1.mono hb0.size)).drew
    have y0 := (hbx.below' hb1).c0
    have y1 := (hbx.below' hb1).c1
    clear x0 x1 hbx hR0 hb0 hb1 hW hcl h hb hg
    go_region_held3 (fun w' => w'.cell? ⟨w.heap.size, 0, none⟩ = some (.bool g) ∧ w'.cell? ⟨w.heap.size, 1, none⟩ = some (.slice A n c))
      (first | exact ⟨y0, y1⟩ | exact ⟨qq.c0, qq.c1⟩)
      (first
        | (go_at_call 26; have rr' := rr; have qq' := qq; have ee' := ee; clear rr qq ee; refine (of_flt _ g A n c l (by exact rr')).mono ?_; rintro e v ⟨rfl, hv⟩; have rr := rr'.below hv; have qq := qq'.below' hv; have ee := ee'.trans (hv.mono ee'.size); clear rr' qq' ee' hv)
        | (go_at_call 27; have rr' := rr; have qq' := qq; have ee' := ee; clear rr qq ee; refine (refOfF_any _ g A n c l (by exact rr')).mono ?_; rintro e v ⟨rfl, hv⟩; have rr := rr'.below hv; have qq := qq'.below' hv; have ee := ee'.trans (hv.mono ee'.size); clear rr' qq' ee' hv)
        | (go_at_call 28; have rr' := rr; have qq' := qq; have ee' := ee; clear rr qq ee; refine (cmpNum_any _ g A n c l (by exact rr') _).mono ?_; rintro e v ⟨rfl, hv⟩; have rr := rr'.below hv; have qq := qq'.below' hv; have ee := ee'.trans (hv.mono ee'.size); clear rr' qq' ee' hv)
        | (go_at_call 29; have rr' := rr; have qq' := qq; have ee' := ee; clear rr qq ee; refine (refCmpNum_any _ g A n c l (by exact rr') _ (by first | exact hcB | exact hcF)).mono ?_; rintro e v ⟨rfl, hv⟩; have rr := rr'.below hv; have qq := qq'.below' hv; have ee := ee'.trans (hv.mono ee'.size); clear rr' qq' ee' hv)
        | (go_at_call 24; have rr' := rr; have qq' := qq; have ee' := ee; clear rr qq ee; refine (awake_flt _).mono ?_; rintro e v ⟨rfl, hv⟩; have rr := rr'.below hv; have qq := qq'.below' hv; have ee := ee'.trans (hv.mono ee'.size); clear rr' qq' ee' hv))
    go_wp2
    go_ret
    exact ⟨rfl, ee⟩
end Go.Proofs.Ytgencmjdejgkoaa
