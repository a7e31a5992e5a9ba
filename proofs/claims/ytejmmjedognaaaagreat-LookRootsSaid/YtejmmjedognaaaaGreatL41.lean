/-
  PACKAGE look: handled.
  PACKAGE look: Live.
-/
import Derived.Test.YtejmmjedognaaaaGreatL40
import Derived.Test.YtejmmjedognaaaaGreatL37
namespace Go.Proofs.YtejmmjedognaaaaGreat
open Go.RowKit Go.Shelf
open St

set_option maxRecDepth 100000 in
theorem lawI3 : Maps.Keyed Tryz.prog 3 := Maps.int_keyed Tryz.underlying3
set_option maxRecDepth 100000 in
theorem und_mi : Tryz.prog.underlying 117 = some (.map 3 118) := by kernel_rfl
set_option maxRecDepth 100000 in
theorem mk_hint (x : Int) (w : World) : (Instr.makeMap 117 (some (.int .i64 x))).run Tryz.prog w = .ok (.map (some w.heap.size)) (w.alloc (.map #[] 0)) := by
  simp [Instr.makeMap, run_underlying und_mi, asInt, asIntOf, Result.andThen]
/-- The handles that were gone through. -/
def MpA (V : World) (E : Nat) (l : List Int) : Prop :=
  ∃ D : DataW Unit, V.ownsMap Tryz.prog 3 unitElem E l.length D ∧ Maps.Tidy D ∧ ∀ x : Int, Maps.has D (.int .i64 x) = true ↔ x ∈ l
set_option maxRecDepth 100000 in
theorem MpA.put {V' : World} {E : Nat} {l : List Int} {D : DataW Unit} {a : Int} (htd : Maps.Tidy D) (h1 : ∀ x : Int, Maps.has D (.int .i64 x) = true ↔ x ∈ l) (ho : V'.ownsMap Tryz.prog 3 unitElem E (l.length + 1) (D.put (.int .i64 a) (.agg []))) : MpA V' E (l ++ [a]) := by
  have hk : WideAt.IsKeyLit (.int .i64 a) := trivial
  refine ⟨_, by rw [List.length_append]; exact ho, htd.put hk _, fun x => ?_⟩
  by_cases e : x = a
  · subst e
    rw [Maps.has_put_same htd.isMap hk]
    simp
  · have hne : (Lit.int .i64 x) ≠ .int .i64 a := fun h => e (by injection h)
    rw [Maps.has_put_other hne, h1 x, List.mem_append]
    simp [e]
set_option maxRecDepth 100000 in
theorem MpA.below {V V' : World} {E : Nat} {l : List Int} (h : MpA V E l) (hb : Below V.heap.size V V') : MpA V' E l := by
  obtain ⟨D, ⟨es, clock, hm, r⟩, h2⟩ := h
  exact ⟨D, ⟨es, clock, (hb.block E (Array.getElem?_eq_some_iff.1 hm).1).trans hm, r⟩, h2⟩
/-- The handles are objects that denote slots, each once, and all that the roots reach. -/
def HdOk (gs : List Frg) (S : List Slt) (roots hs : List Int) : Prop :=
  (∀ a ∈ hs, dnO gs S a = true) ∧ hs.Nodup ∧ ∀ x ws, Rch gs roots x → objO gs x = some (4, ws) → ldZ x ∈ hs
set_option maxRecDepth 100000 in
theorem hdO_all {gs : List Frg} {roots hs : List Int} {l : List OR} (h : Rchd gs roots l) : (∀ a ∈ hdO l, a ∈ hs) ↔ ∀ x ws, Rch gs roots x → objO gs x = some (4, ws) → ldZ x ∈ hs := by
  constructor
  · intro ha x ws hx ho
    obtain ⟨p, hp, rfl⟩ := List.mem_map.1 ((h.2 x).2 hx)
    have h1 := (h.1.2 p hp).2.1
    rw [ho] at h1
    injection h1 with h1
    injection h1 with h1 _
    exact ha _ (List.mem_map.2 ⟨p, List.mem_filter.2 ⟨hp, by rw [← h1]; rfl⟩, rfl⟩)
  · intro hx a ha
    obtain ⟨p, hp, rfl⟩ := List.mem_map.1 ha
    obtain ⟨hp, hk⟩ := List.mem_filter.1 hp
    have hk : p.k = 4 := of_decide_eq_true hk
    have h1 := (h.1.2 p hp).2.1
    rw [hk] at h1
    exact hx p.x p.ws ((h.2 p.x).1 (List.mem_map.2 ⟨p, hp, rfl⟩)) h1
set_option maxRecDepth 100000 in
/-- A row of ints in memory. -/
theorem RwA.zs {w : World} {B : Nat} {A : Option Addr} {c : Nat} {zs : List Int} (h : RwA w B A c zs) (hwf : ∀ x ∈ zs, (Lit.int .i64 x).wf = true) : Zs .i64 w A zs.length c zs := by
  rcases h.row.2 with ⟨h0, h1⟩ | ⟨g, cap, cur, hv, hbg, hgg, hnc, hcm, hcs, htk⟩
  · injection h0 with e1 e2 e3
    have hzs : zs = [] := List.eq_nil_of_length_eq_zero h1
    subst e1 e3 hzs
    exact Zs.nil _ _
  · injection hv with e1 _ e3
    subst e1 e3
    refine ⟨rfl, hnc, hcm, hwf, fun hn => ⟨g, 0, rfl, (Array.getElem?_eq_some_iff.1 hgg).1, fun j hj => ?_⟩⟩
    have h1 := World.ownsRow.cellAt h.row j (by omega)
    rw [Nat.zero_add, h1, i64s, List.getElem?_map, List.getD_eq_getElem?_getD, List.getElem?_eq_getElem hj]
    rfl
set_option maxRecDepth 100000 in
theorem ld_wf {x : Int} (h : Wd x) : (Lit.int .i64 (ldZ x)).wf = true := by
  refine WalkArith.wf_i64 ?_
  unfold Wd at h
  unfold ldZ
  split
  · split <;> omega
  · omega
set_option maxRecDepth 100000 in
theorem hdO_wf {gs : List Frg} {l : List OR} (h : ORok gs l) : ∀ x ∈ hdO l, (Lit.int .i64 x).wf = true := fun x hx => by
  obtain ⟨p, hp, rfl⟩ := List.mem_map.1 hx
  exact ld_wf (h.2 p (List.mem_filter.1 hp).1).1
set_option maxRecDepth 100000 in
set_option maxRecDepth 100000 in
set_option maxHeartbeats 8000000 in
theorem handled_any {w : World} {gs : List Frg} {S : List Slt} {mv : Value} {SA : Option Addr} {sm sc : Nat} (hM : Mm w gs mv) (hgs : ∀ f ∈ gs, f.ws.length ≤ 1000) (hgl : gs.length ≤ 8) (hS : SLs w SA sm sc S) (hsm : sm ≤ 1000) {r : DR} {d : Dmp} (hd : DV w r d) (hrm : r.rm ≤ 1000) (hhm : r.hm ≤ 1000) :
    Calls Tryz.prog 33 #[mv, .slice SA sm sc, .agg #[.int .i64 r.y.at_, .slice r.y.A r.y.n r.y.c, .int .i64 r.o.at_, .slice r.o.A r.o.n r.o.c, .int .i64 r.size, .int .i64 r.mark, .slice r.F r.fm r.fc, .slice r.R r.rm r.rc, .slice r.H r.hm r.hc]] w fun e w' => ∃ b, e = .returned (.bool b) ∧ (b = true ↔ HdOk gs S d.roots d.hs) ∧ Below w.heap.size w w' := by
  have hmm := mk_hint
  obtain ⟨T, v, hmv⟩ := hM.iface
  obtain ⟨wa, hwa⟩ : ∃ wa, wa = w.alloc (.cells #[.int .i64 r.y.at_, .slice r.y.A r.y.n r.y.c, .int .i64 r.o.at_, .slice r.o.A r.o.n r.o.c, .int .i64 r.size, .int .i64 r.mark, .slice r.F r.fm r.fc, .slice r.R r.rm r.rc, .slice r.H r.hm r.hc] 28) := ⟨_, rfl⟩
  have hba : Below w.heap.size w wa := by rw [hwa]; exact (Below.refl _ w).alloc (Nat.le_refl _) _
  have bxa : Bx wa w.heap.size r := ⟨by rw [hwa]; exact heap_alloc_new w _⟩
  have q7 := bxa.c7
  have q8 := bxa.c8
  subst hmv
  have hzh := hd.hs.below hba
  have hzr := hd.roots.below hba
  have HF : Hid (∀ w', Below wa.heap.size wa w' → (w'.cell? ⟨w.heap.size, 7, none⟩ = some (.slice r.R r.rm r.rc) ∧ w'.cell? ⟨w.heap.size, 8, none⟩ = some (.slice r.H r.hm r.hc)) ∧ Zs .i64 w' r.H r.hm r.hc d.hs ∧ (∀ a, Calls Tryz.prog 67 #[.iface T v, .slice SA sm sc, .int .i64 a] w' fun e w2 => e = .returned (.bool (dnO gs S a)) ∧ Below w'.heap.size w' w2) ∧ Calls Tryz.prog 44 #[.iface T v, .slice r.R r.rm r.rc] w' (RhP w' gs d.roots)) :=
    Lib.hid (fun w' hb => ⟨⟨(bxa.below hb bxa.lt).c7, (bxa.below hb bxa.lt).c8⟩, hzh.below hb, fun a => denotes_any ((hM.below hba).below hb) hgs ((hS.below hba).below hb) hsm a, rh_any ((hM.below hba).below hb) hgs hgl (hzr.below hb) hrm⟩)
  have HB : Hid (∀ w', Below wa.heap.size wa w' → Below w.heap.size w w') := Lib.hid (fun w' hb => hba.trans (hb.mono hba.size))
  have HA : Hid (0 < r.hm → ∃ b o, r.H = some ⟨b, o, none⟩) := Lib.hid (fun h => by
    obtain ⟨b, o, e, _⟩ := hzh.some h
    exact ⟨b, o, e⟩)
  have hl := Lib.hid hzh.len
  have hwfh : Hid (∀ j : Nat, j < r.hm → (Lit.int .i64 (d.hs.getD j 0)).wf = true) := Lib.hid (fun j hj => hzh.wfAt hj)
  have H0 : Hid (Below wa.heap.size wa (wa.alloc (.map #[] 0)) ∧ MpA (wa.alloc (.map #[] 0)) wa.heap.size (d.hs.take 0)) := Lib.hid ⟨(Below.refl _ wa).alloc (Nat.le_refl _) _, .map [], World.ownsMap_made wa Tryz.prog 3 (unitElem (H := Unit)), Maps.tidy_empty, fun x => ⟨fun h => absurd h (by simp [Maps.has]), fun h => by simp at h⟩⟩
  clear hM hgs hgl hS hd hrm hba bxa hzh hzr q7
  generalize r.H = Ah at *
  generalize r.hm = hm at *
  generalize r.R = Ar at *
  go_enter Tryz.func33, Tryz.ntmps33
  go_upto_region 1 with fail
  rw [← hwa]
  clear hwa
  generalize hE : w.heap.size = E at *
  replace hE := Lib.hid hE
  go_upto_region 2 with fail
  generalize hw0 : wa.alloc (.map #[] 0) = wc at *
  have q8 := (HF.out wc H0.out.1).1.2
  generalize hMb : wa.heap.size = M at *
  replace hMb := Lib.hid hMb
  go_upto_region 3 with fail
  go_loopw [23] (fun v23 wx => ∃ i : Nat, i ≤ hm ∧ v23 = .int .i64 (i : Int) ∧ Hid ((∀ a ∈ d.hs.take i, dnO gs S a = true) ∧ (d.hs.take i).Nodup) ∧ Hid (Below M wa wx ∧ MpA wx M (d.hs.take i))) (fun v23 _ => hm - (intOf v23).toNat)
  case atStart => exact ⟨0, Nat.zero_le _, rfl, Lib.hid ⟨fun x hx => by simp at hx, by simp⟩, Lib.hid H0.out⟩
  case round =>
    clear H0 q8
    obtain ⟨i, hi, rfl, HR, H⟩ := hrel
    by_cases him : i < hm
    · have hd1 : decide ((i : Int) < (hm : Int)) = true := decide_eq_true (by omega)
      obtain ⟨b, o, hA⟩ := HA.out (by omega)
      have hz := (HF.out _ H.out.1).2.1
      subst hA
      have y0 := hz.at_ him
      have hkey := Maps.keyOf_int_mk Tryz.underlying3 (hwfh.out i him)
      have hil := Lib.hid (show i < d.hs.length by rw [hl.out]; exact him)
      obtain ⟨D, hown, htd, hhas⟩ := H.out.2
      rw [List.length_take, Nat.min_eq_left (Nat.le_of_lt hil.out)] at hown
      have HO : Hid (∀ w', Below wr.heap.size wr w' → w'.ownsMap Tryz.prog 3 unitElem M i D) := Lib.hid (fun w' hb => by
        obtain ⟨es, clock, hm, rr⟩ := hown
        exact ⟨es, clock, (hb.block M (Array.getElem?_eq_some_iff.1 hm).1).trans hm, rr⟩)
      have hsz := H.out.1.size
      clear hz hown
      generalize hxx : d.hs.getD i 0 = x at *
      replace hxx := Lib.hid hxx
      have hin : x ∈ d.hs := by
        rw [← hxx.out, List.getD_eq_getElem?_getD, List.getElem?_eq_getElem hil.out]
        exact List.getElem_mem hil.out
      have hq : Hid (Below M wa (wr.alloc (.cells #[] 118))) := Lib.hid (H.out.1.alloc (by rw [← hMb.out]; exact hsz) _)
      have HDn := Lib.hid ((HF.out _ hq.out).2.2.1 x)
      cases hh : Maps.has D (.int .i64 x) with
      | true =>
        have HN : Hid (¬ HdOk gs S d.roots d.hs) := Lib.hid (fun hk => by
          have h1 : (d.hs.take (i + 1)).Nodup := hk.2.1.sublist (List.take_sublist _ _)
          rw [take_gd hil.out, hxx.out] at h1
          exact (List.nodup_append.1 h1).2.2 x ((hhas x).1 hh) x (by simp) rfl)
        clear htd hhas hin
        go_wp2_with (at_lookup; go_loud (refine wpList_lookup_own_unit _ rfl _ _ 117 rfl 3 118 lawI3 und_mi (zeroS _) _ _ D rfl (HO.out _ (by first | exact Below.refl _ _ | exact (Below.refl _ _).alloc (Nat.le_refl _) _)) _ _ rfl hkey ?_; rw [hh]))
        go_ret
        exact ⟨false, rfl, ⟨fun h => absurd h (by decide), fun h => absurd h HN.out⟩, by rw [hE.out]; exact HB.out _ hq.out⟩
      | false =>
        cases hdn : dnO gs S x with
        | false =>
          have HN : Hid (¬ HdOk gs S d.roots d.hs) := Lib.hid (fun hk => by
            have h1 := hk.1 x hin
            rw [hdn] at h1
            cases h1)
          clear htd hhas hin
          go_wp2_with (first | (at_lookup; go_loud (refine wpList_lookup_own_unit _ rfl _ _ 117 rfl 3 118 lawI3 und_mi (zeroS _) _ _ D rfl (HO.out _ (by first | exact Below.refl _ _ | exact (Below.refl _ _).alloc (Nat.le_refl _) _)) _ _ rfl hkey ?_; rw [hh])) | (go_at_call 67; (with_reducible refine (HDn.out).mono ?_); rintro e w3 ⟨rfl, hb3⟩; rw [hdn]; replace hb3 := Lib.hid hb3))
          go_ret
          exact ⟨false, rfl, ⟨fun h => absurd h (by decide), fun h => absurd h HN.out⟩, by rw [hE.out]; exact HB.out _ (hq.out.trans (hb3.out.mono (by rw [← hMb.out]; exact hq.out.size)))⟩
        | true =>
          clear hin
          have hlm : i < maxLen := by unfold maxLen; omega
          go_wp2_with (first | (at_lookup; go_loud (refine wpList_lookup_own_unit _ rfl _ _ 117 rfl 3 118 lawI3 und_mi (zeroS _) _ _ D rfl (HO.out _ (by first | exact Below.refl _ _ | exact (Below.refl _ _).alloc (Nat.le_refl _) _)) _ _ rfl hkey ?_; rw [hh])) | (go_at_call 67; (with_reducible refine (HDn.out).mono ?_); rintro e w3 ⟨rfl, hb3⟩; rw [hdn]; replace hb3 := Lib.hid hb3) | (at_mapUpdate; go_loud (refine wpList_mapUpdate_own _ rfl _ _ _ 117 rfl 3 118 lawI3 und_mi _ M i D rfl (HO.out _ (((Below.refl _ wr).alloc (Nat.le_refl _) _).trans (hb3.out.mono (by simp)))) hlm _ _ _ rfl rfl hkey _ _ unitElem_mk ?_; intro w5 hown5 hgrow5; replace hown5 := Lib.hid hown5; replace hgrow5 := Lib.hid hgrow5)))
          have hx1 : Hid ((∀ a ∈ d.hs.take (i + 1), dnO gs S a = true) ∧ (d.hs.take (i + 1)).Nodup) := Lib.hid (by
            rw [take_gd hil.out, hxx.out]
            refine ⟨fun a ha => ?_, List.nodup_append.2 ⟨HR.out.2, by simp, fun a ha b hb e => ?_⟩⟩
            · rcases List.mem_append.1 ha with ha | ha
              · exact HR.out.1 a ha
              · rw [List.mem_singleton.1 ha]; exact hdn
            · rw [List.mem_singleton.1 hb] at e
              subst e
              rw [(hhas a).2 ha] at hh
              cases hh)
          have h3 : Below M wa w3 := hq.out.trans (hb3.out.mono (by rw [← hMb.out]; exact hq.out.size))
          have hx2 : Hid (Below M wa w5 ∧ MpA w5 M (d.hs.take (i + 1))) := Lib.hid (by
            refine ⟨h3.grown hgrow5.out (by rw [← hMb.out]; exact h3.size) (fun k e => by cases e; exact Nat.le_refl _), ?_⟩
            rw [take_gd hil.out, hxx.out]
            refine MpA.put htd hhas ?_
            rw [List.length_take, Nat.min_eq_left (Nat.le_of_lt hil.out)]
            exact hown5.out)
          exact ⟨⟨i + 1, by omega, rfl, hx1, hx2⟩, by simp [intOf]; omega⟩
    · have e : i = hm := by omega
      subst e
      have hd1 : decide ((i : Int) < (i : Int)) = false := decide_eq_false (by omega)
      have q7 := (HF.out _ H.out.1).1.1
      have HRh := Lib.hid (HF.out _ H.out.1).2.2.2
      have HR2 : Hid ((∀ a ∈ d.hs, dnO gs S a = true) ∧ d.hs.Nodup) := Lib.hid (by
        have h9 := HR.out
        rw [List.take_of_length_le (by rw [hl.out]; exact Nat.le_refl _)] at h9
        exact h9)
      have HM2 : Hid (MpA wr M d.hs) := Lib.hid (by
        have h9 := H.out.2
        rw [List.take_of_length_le (by rw [hl.out]; exact Nat.le_refl _)] at h9
        exact h9)
      have hsz := H.out.1.size
      clear HR
      go_upto_region 11 with (go_at_call 44; (with_reducible refine (HRh.out).mono ?_); rintro e w2 ⟨A2, c2, l, rfl, hRl, hrw, hb2⟩)
      have HJ := Lib.hid (hdO_all (hs := d.hs) hRl)
      have hz2 := hrw.zs (hdO_wf hRl.1)
      have HB2 : Hid (Below M wa w2) := Lib.hid (H.out.1.trans (hb2.mono (by rw [← hMb.out]; exact hsz)))
      have HM3 : Hid (MpA w2 M d.hs) := Lib.hid (HM2.out.below hb2)
      clear hrw hRl HRh HM2 hb2 hsz q7
      generalize hdO l = zs at *
      generalize hn2 : zs.length = n2 at *
      have hn9 : n2 ≤ 9223372036854775807 := Nat.le_trans hz2.nc hz2.cm
      have HZ := Lib.hid hz2
      have HA2 : Hid (0 < n2 → ∃ b o, A2 = some ⟨b, o, none⟩) := Lib.hid (fun h => by
        obtain ⟨b, o, e, _⟩ := hz2.some h
        exact ⟨b, o, e⟩)
      clear hz2
      replace hn2 := Lib.hid hn2
      go_loopw [50] (fun v50 wx => ∃ j : Nat, j ≤ n2 ∧ v50 = .int .i64 (j : Int) ∧ Hid (∀ a ∈ zs.take j, a ∈ d.hs) ∧ Hid (Below w2.heap.size w2 wx)) (fun v50 _ => n2 - (intOf v50).toNat)
      case atStart => exact ⟨0, Nat.zero_le _, rfl, Lib.hid (fun x hx => by simp at hx), Lib.hid (Below.refl _ _)⟩
      case round =>
        obtain ⟨j, hj, rfl, HQ, HV⟩ := hrel
        have HW : Hid (∀ w', Below wr.heap.size wr w' → Below w.heap.size w w') := Lib.hid (fun w' hb => by
          rw [hE.out]
          exact HB.out _ ((HB2.out.trans (HV.out.mono (by rw [← hMb.out]; exact HB2.out.size))).trans (hb.mono (by rw [← hMb.out]; exact Nat.le_trans HB2.out.size HV.out.size))))
        by_cases hjn : j < n2
        · have hd2 : decide ((j : Int) < (n2 : Int)) = true := decide_eq_true (by omega)
          obtain ⟨b, o, hA⟩ := HA2.out (by omega)
          subst hA
          have hz := HZ.out.below HV.out
          have y0 := hz.at_ hjn
          have hkey := Maps.keyOf_int_mk Tryz.underlying3 (hz.wfAt hjn)
          have hjl := Lib.hid (show j < zs.length by rw [hn2.out]; exact hjn)
          obtain ⟨D, hown, htd, hhas⟩ := HM3.out.below HV.out
          have HO : Hid (∀ w', Below wr.heap.size wr w' → w'.ownsMap Tryz.prog 3 unitElem M d.hs.length D) := Lib.hid (fun w' hb => by
            obtain ⟨es, clock, hm, rr⟩ := hown
            exact ⟨es, clock, (hb.block M (Array.getElem?_eq_some_iff.1 hm).1).trans hm, rr⟩)
          clear hz hown htd
          generalize hxx : zs.getD j 0 = x at *
          replace hxx := Lib.hid hxx
          have hin : x ∈ zs := by
            rw [← hxx.out, List.getD_eq_getElem?_getD, List.getElem?_eq_getElem hjl.out]
            exact List.getElem_mem hjl.out
          cases hh : Maps.has D (.int .i64 x) with
          | false =>
            have HN : Hid (¬ HdOk gs S d.roots d.hs) := Lib.hid (fun hk => by
              have h1 := HJ.out.2 hk.2.2 x hin
              rw [(hhas x).2 h1] at hh
              cases hh)
            clear hhas hin
            go_wp2_with (at_lookup; go_loud (refine wpList_lookup_own_unit _ rfl _ _ 117 rfl 3 118 lawI3 und_mi (zeroS _) _ _ D rfl (HO.out _ (by first | exact Below.refl _ _ | exact (Below.refl _ _).alloc (Nat.le_refl _) _)) _ _ rfl hkey ?_; rw [hh]))
            go_ret
            exact ⟨false, rfl, ⟨fun h => absurd h (by decide), fun h => absurd h HN.out⟩, HW.out _ ((Below.refl _ _).alloc (Nat.le_refl _) _)⟩
          | true =>
            have hx1 : Hid (∀ a ∈ zs.take (j + 1), a ∈ d.hs) := Lib.hid (by
              rw [take_gd hjl.out, hxx.out]
              intro a ha
              rcases List.mem_append.1 ha with ha | ha
              · exact HQ.out a ha
              · rw [List.mem_singleton.1 ha]; exact (hhas x).1 hh)
            clear hhas hin
            go_wp2_with (at_lookup; go_loud (refine wpList_lookup_own_unit _ rfl _ _ 117 rfl 3 118 lawI3 und_mi (zeroS _) _ _ D rfl (HO.out _ (by first | exact Below.refl _ _ | exact (Below.refl _ _).alloc (Nat.le_refl _) _)) _ _ rfl hkey ?_; rw [hh]))
            exact ⟨⟨j + 1, by omega, rfl, hx1, Lib.hid (HV.out.alloc HV.out.size _)⟩, by simp [intOf]; omega⟩
        · have e : j = n2 := by omega
          subst e
          have hd2 : decide ((j : Int) < (j : Int)) = false := decide_eq_false (by omega)
          have HY : Hid (HdOk gs S d.roots d.hs) := Lib.hid ⟨HR2.out.1, HR2.out.2, HJ.out.1 (fun a ha => by
            have h9 := HQ.out
            rw [List.take_of_length_le (by rw [hn2.out]; exact Nat.le_refl _)] at h9
            exact h9 a ha)⟩
          go_wp2
          go_ret
          exact ⟨true, rfl, ⟨fun _ => HY.out, fun _ => rfl⟩, HW.out _ (Below.refl _ _)⟩
end Go.Proofs.YtejmmjedognaaaaGreat

namespace Go.Proofs.YtejmmjedognaaaaGreat
open Go.RowKit Go.Shelf
open St
attribute [local go_sem] Oper.semAt_some

/-- How many words an object holds, its head counted. -/
def szI (p : OR) : Int := if p.k = -1 then (p.n : Int) else 1 + p.n
def szO (l : List OR) : Int := (l.map szI).sum
set_option maxRecDepth 100000 in
theorem szO_snoc (l : List OR) (p : OR) : szO (l ++ [p]) = szO l + szI p := by
  unfold szO
  rw [List.map_append, List.sum_append]
  simp
set_option maxRecDepth 100000 in
theorem szO_bound : ∀ (l : List OR), (∀ p ∈ l, p.n ≤ 1000) → 0 ≤ szO l ∧ szO l ≤ 1001 * l.length
  | [], _ => by simp [szO]
  | p :: l, h => by
    have h1 := szO_bound l (fun q hq => h q (by simp [hq]))
    have h2 := h p (by simp)
    have e : szO (p :: l) = szI p + szO l := by simp [szO]
    have h3 : 0 ≤ szI p ∧ szI p ≤ 1001 := by unfold szI; split <;> omega
    rw [e, List.length_cons]
    omega
/-- What separate tells, of regions that are apart or not. -/
def sepG (gs gs' : List Frg) : Prop := (Sepa gs ∧ gs' = gs) ∨ (¬ Sepa gs ∧ gs' = [])
set_option maxRecDepth 100000 in
theorem sepG_sub {gs gs' : List Frg} (h : sepG gs gs') : gs'.length ≤ gs.length ∧ ∀ f ∈ gs', f ∈ gs := by
  rcases h with ⟨_, e⟩ | ⟨_, e⟩
  · subst e; exact ⟨Nat.le_refl _, fun f hf => hf⟩
  · subst e; exact ⟨Nat.zero_le _, fun f hf => by simp at hf⟩
def SepQ (w : World) (gs : List Frg) (e : Ending) (w' : World) : Prop :=
  ∃ gs' A n c ok, e = .returned (.tuple #[.slice A n c, .bool ok]) ∧ sepG gs gs' ∧ (ok = true ↔ Sepa gs) ∧ Mm w' gs' (.iface 74 (.slice A n c)) ∧ Below w.heap.size w w'
set_option maxRecDepth 100000 in
theorem sep_q {w : World} {gs : List Frg} {e : Ending} {w' : World} (h : SepP w gs e w') : SepQ w gs e w' := by
  obtain ⟨h, hb⟩ := h
  rcases h with ⟨A, n, c, rs, fs, rfl, hF, hn, hs, ha, hS⟩ | ⟨rfl, hS⟩
  · exact ⟨gs, A, n, c, true, rfl, .inl ⟨hS, rfl⟩, ⟨fun _ => hS, fun _ => rfl⟩, .apart A n c rs fs hF hs (by omega) ha rfl, hb⟩
  · exact ⟨[], none, 0, 0, false, rfl, .inr ⟨hS, rfl⟩, ⟨fun h => (by cases h), fun h => absurd h hS⟩, .apart none 0 0 [] [] ⟨rfl, rfl, by omega, by decide, fun h => absurd h (by omega), fun i hi => absurd hi (by omega)⟩ ⟨fun i hi => absurd hi (by simp), fun i j _ hj => absurd hj (by simp)⟩ (by omega) (fun _ => rfl) rfl, hb⟩
set_option maxRecDepth 100000 in
theorem sepq_any {w : World} {r : DR} {d : Dmp} (h : DV w r d) (hm : r.fm ≤ 6) (hg : ∀ f ∈ d.y :: d.o :: d.fs, f.ws.length ≤ 1000) :
    Calls Tryz.prog 29 #[.agg #[.int .i64 r.y.at_, .slice r.y.A r.y.n r.y.c, .int .i64 r.o.at_, .slice r.o.A r.o.n r.o.c, .int .i64 r.size, .int .i64 r.mark, .slice r.F r.fm r.fc, .slice r.R r.rm r.rc, .slice r.H r.hm r.hc]] w (SepQ w (d.y :: d.o :: d.fs)) := (separate_any h hm hg).mono (fun _ _ q => sep_q q)
set_option maxRecDepth 100000 in
theorem objO_len {gs : List Frg} (hgs : ∀ f ∈ gs, f.ws.length ≤ 1000) {x k : Int} {ws : List Int} (h : objO gs x = some (k, ws)) : ws.length ≤ 1000 := by
  unfold objO at h
  split at h
  · cases h
  · next k2 ws2 ho =>
    split at h
    · injection h with h
      injection h with h1 h2
      subst h1 h2
      exact outO_len hgs ho
    · cases h
def LiP (w : World) (gs : List Frg) (roots : List Int) (e : Ending) (w' : World) : Prop :=
  ∃ gs' l, sepG gs gs' ∧ Rchd gs' roots l ∧ e = .returned (.int .i64 (szO l)) ∧ Below w.heap.size w w'

set_option maxRecDepth 100000 in
set_option maxRecDepth 100000 in
set_option maxHeartbeats 8000000 in
theorem live_any {w : World} {r : DR} {d : Dmp} (h : DV w r d) (hm : r.fm ≤ 6) (hgs0 : ∀ f ∈ d.y :: d.o :: d.fs, f.ws.length ≤ 1000) (hrm : r.rm ≤ 1000) :
    Calls Tryz.prog 19 #[.agg #[.int .i64 r.y.at_, .slice r.y.A r.y.n r.y.c, .int .i64 r.o.at_, .slice r.o.A r.o.n r.o.c, .int .i64 r.size, .int .i64 r.mark, .slice r.F r.fm r.fc, .slice r.R r.rm r.rc, .slice r.H r.hm r.hc]] w (LiP w (d.y :: d.o :: d.fs) d.roots) := by
  obtain ⟨wa, hwa⟩ : ∃ wa, wa = w.alloc (.cells #[.int .i64 r.y.at_, .slice r.y.A r.y.n r.y.c, .int .i64 r.o.at_, .slice r.o.A r.o.n r.o.c, .int .i64 r.size, .int .i64 r.mark, .slice r.F r.fm r.fc, .slice r.R r.rm r.rc, .slice r.H r.hm r.hc] 28) := ⟨_, rfl⟩
  have hba : Below w.heap.size w wa := by rw [hwa]; exact (Below.refl _ w).alloc (Nat.le_refl _) _
  have bxa : Bx wa w.heap.size r := ⟨by rw [hwa]; exact heap_alloc_new w _⟩
  have hS := Lib.hid (sepq_any (h.below hba) hm hgs0)
  refine (callsIn_wide (n := 3)).1 ?_
  refine callsIn_of_wp_marks Tryz.func19 rfl trivial ?_ rfl
  simp only [Tryz.ntmps19, List.size_toArray, List.length_cons, List.length_nil, Nat.reduceAdd, Nat.reduceSub, Array.replicate_succ, Array.replicate_zero, List.push_toArray, List.append_toArray, List.nil_append, List.cons_append]
  gi_wp2_with (first | ((try refine ⟨trivial, ?_⟩); gi_at_call 29; rw [← hwa]; refine (callsIn_wide.2 hS.out).mono ?_; rintro e w1 ⟨gs, A1, n1, c1, ok, rfl, hsg, hok, hM, hb1⟩; have bx1 := bxa.below hb1 bxa.lt; have q7 := (bx1.below ((Below.refl _ w1).alloc (Nat.le_refl _) (.cells #[.int .i64 0] 3)) bx1.lt).c7) | ((try refine ⟨trivial, ?_⟩); gi_at_call 46; refine (callsIn_wide.2 (reached_any 74 (.slice A1 n1 c1) r.R r.rm r.rc)).mono ?_; rintro e w' ⟨rfl, rfl⟩))
  clear hS hwa
  obtain ⟨W0, hW0⟩ : ∃ W0, W0 = ((w1.alloc (.cells #[.int .i64 0] 3)).alloc (.cells #[.iface 74 (.slice A1 n1 c1)] 65)).alloc (.cells #[.slice r.R r.rm r.rc] 22) := ⟨_, rfl⟩
  have hB0 : Below w1.heap.size w1 W0 := by
    rw [hW0]
    exact (((Below.refl _ w1).alloc (Nat.le_refl _) _).alloc (by simp) _).alloc (by simp; omega) _
  have hs0 : W0.heap.size = w1.heap.size + 3 := by rw [hW0]; simp
  have k1 : Boxed W0 w1.heap.size 3 (.int .i64 0) := by
    unfold Boxed
    rw [hW0, Below.heap_alloc _ _ _ (by simp; omega), Below.heap_alloc _ _ _ (by simp)]
    exact heap_alloc_new w1 _
  have k2 : Boxed W0 (w1.heap.size + 1) 65 (.iface 74 (.slice A1 n1 c1)) := by
    unfold Boxed
    rw [hW0, Below.heap_alloc _ _ _ (by simp)]
    have := heap_alloc_new (w1.alloc (.cells #[.int .i64 0] 3)) (.cells #[.iface 74 (.slice A1 n1 c1)] 65)
    simpa using this
  have k3 : Boxed W0 (w1.heap.size + 2) 22 (.slice r.R r.rm r.rc) := by
    unfold Boxed
    rw [hW0]
    have := heap_alloc_new ((w1.alloc (.cells #[.int .i64 0] 3)).alloc (.cells #[.iface 74 (.slice A1 n1 c1)] 65)) (.cells #[.slice r.R r.rm r.rc] 22)
    simpa using this
  have hKB : ∀ V, Kpk (fun k o => BdK w1.heap.size k o ∨ W0.heap.size ≤ k) W0 V → Below w1.heap.size W0 V := fun V hV => hV.toBelow (by omega) (fun k o hk e => by
    rcases e with (e | e) | e
    · omega
    · omega
    · omega)
  rw [show w1.heap.size + 1 + 1 = w1.heap.size + 2 by omega]
  rw [← hW0]
  obtain ⟨hgl', hgsub⟩ := sepG_sub hsg
  have hgs : ∀ f ∈ gs, f.ws.length ≤ 1000 := fun f hf => hgs0 f (hgsub f hf)
  have hgl : gs.length ≤ 8 := by
    have h1 := h.fs.lef
    simp only [List.length_cons] at hgl'
    omega
  have hz := (h.roots.below hba).below hb1
  have hseq := reached_seq 2 (by omega) (w1.heap.size + 1) (w1.heap.size + 2) (w1.heap.size + 3) (BdK w1.heap.size) (bdK_hK _) gs (.iface 74 (.slice A1 n1 c1)) r.R r.rm r.rc d.roots hgs hgl hrm W0 k2 k3 (fun V hV => hM.below (hB0.trans (hKB V hV))) (hz.below hB0) (by omega) (fun o e => by
    rcases e with e | e
    · omega
    · omega)
  have hBE : Hid (∀ V, Below w1.heap.size w1 V → Below w.heap.size w V) := Lib.hid (fun V hV => (hba.trans (hb1.mono hba.size)).trans (hV.mono (Nat.le_trans hba.size hb1.size)))
  clear hW0 hba hb1 bxa bx1 q7 hM hz h
  refine range_m rfl (by omega) (gf := 78) (lb := #[.pointer (some ⟨w1.heap.size + 2, 0, none⟩), .pointer (some ⟨w1.heap.size + 1, 0, none⟩)]) rfl trivial (enters_of Tryz.func78 (by kernel_rfl) rfl)
    hseq (fun r h => by rcases h with ⟨_, _, e⟩ | ⟨_, e⟩ <;> cases e) (fun d h => by rcases h with ⟨_, _, e⟩ | ⟨_, e⟩ <;> cases e) (fun h k => ⟨h.1.trans k.1, h.2.trans k.2⟩)
    (fun V l r' o' hl hr => ⟨Kpk.grown (grownBy_putObj' V l o') (fun k o e ho => by
      cases e
      rw [hr] at ho
      cases ho
      exact .inr ⟨by omega, .inr ⟨_, rfl⟩⟩), KU.grown (grownBy_putObj' V l o') (fun k p x e hp he => by
      cases e
      obtain ⟨cs, t, f, h1, _⟩ := cell_obj hp
      rw [he, hr] at h1
      cases h1)⟩)
    (Below.refl _ _) (fun _ => rfl)
    (fun pre W => Boxed W w1.heap.size 3 (.int .i64 (szO pre)) ∧ (w1.heap.size + 3 ≤ W.heap.size ∧ Below w1.heap.size w1 W))
    (fun _ _ _ => False)
    (AbM.and (fun pre V V' row hs hg hr => boxed_bk (by decide) hs hg hr) (AbM.and (fun pre V V' row hs hg hr => Nat.le_trans hs hg.size) (below_grown (by omega) (Nat.le_refl _))))
    (fun c s V V' row hs hg hr => hs)
    ⟨k1, by omega, hB0⟩
    (fun pre x a' V => ∃ B, w1.heap.size + 3 ≤ B ∧ V.heap[B]? = some (.cells #[.int .i64 x.k, .slice x.A x.n x.c] 93 (0, 0)) ∧ a' = { tmps := #[.agg #[.int .i64 r.y.at_, .slice r.y.A r.y.n r.y.c, .int .i64 r.o.at_, .slice r.o.A r.o.n r.o.c, .int .i64 r.size, .int .i64 r.mark, .slice r.F r.fm r.fc, .slice r.R r.rm r.rc, .slice r.H r.hm r.hc], .pointer (some ⟨w.heap.size, 0, none⟩), .int .i64 0, .slice A1 n1 c1, .bool ok, .pointer (some ⟨w1.heap.size, 0, none⟩), undef, .pointer (some ⟨B, 0, none⟩), .tuple #[.slice A1 n1 c1, .bool ok], .agg #[.int .i64 r.y.at_, .slice r.y.A r.y.n r.y.c, .int .i64 r.o.at_, .slice r.o.A r.o.n r.o.c, .int .i64 r.size, .int .i64 r.mark, .slice r.F r.fm r.fc, .slice r.R r.rm r.rc, .slice r.H r.hm r.hc], .tuple #[.slice A1 n1 c1, .bool ok], .slice A1 n1 c1, .bool ok, .slice A1 n1 c1, .iface 74 (.slice A1 n1 c1), .pointer (some ⟨w.heap.size, 7, none⟩), .slice r.R r.rm r.rc, .func (.func 78) #[] #[.pointer (some ⟨w1.heap.size + 2, 0, none⟩), .pointer (some ⟨w1.heap.size + 1, 0, none⟩)], .int .u64 x.x, .agg #[.int .i64 x.k, .slice x.A x.n x.c], undef, undef, undef, undef, undef], defers := [] })
    (fun pre x a' s V V' row hs hg hr => by
      obtain ⟨B, h1, h2, h3⟩ := hs
      exact ⟨B, h1, (hg.block _ (Array.getElem?_eq_some_iff.1 h2).1 (fun e => by
        obtain ⟨_, o, ho, hb⟩ := hr _ e.symm
        rw [h2] at ho
        cases ho
        exact absurd (bkR_cells hb) (by decide))).trans h2, h3⟩) ?assign ?body ?done ?stop
  case assign =>
    intro l pre x V K hi hR hK
    unfold encO
    gi_wp2
    have hb : Below V.heap.size V (V.alloc (.cells #[.int .i64 x.k, .slice x.A x.n x.c] 93)) := (Below.refl _ V).alloc (Nat.le_refl _) _
    have hV := hi.2.2.size
    have hV3 := hi.2.1
    exact hK _ _ (KpM.below hb) ⟨Kpk.below hb, KU.below hb⟩ ⟨hi.1.alloc _, Nat.le_trans hV3 hb.size, hi.2.2.trans (hb.mono hV)⟩ ⟨V.heap.size, hV3, heap_alloc_new V _, rfl⟩
  case body =>
    rintro l pre x a' V ⟨hbx, hV3, hbV⟩ ⟨B, hB1, hB2, rfl⟩ hR
    have hpl := hR.len hgs
    rw [List.length_append, List.length_singleton] at hpl
    have hall : ∀ p ∈ pre ++ [x], p.n ≤ 1000 := fun p hp => by
      obtain ⟨_, ho, hn⟩ := hR.2 p hp
      rw [hn]
      exact objO_len hgs ho
    have hxn := hall x (by simp)
    obtain ⟨hs1, hs2⟩ := szO_bound pre (fun p hp => hall p (by simp [hp]))
    have HSZ : Hid (∀ w, Calls Tryz.prog 47 #[.agg #[.int .i64 x.k, .slice x.A x.n x.c]] w fun e w' => e = .returned (.int .i64 (szI x)) ∧ Below w.heap.size w w') := Lib.hid (fun w => osize_any (w := w) x.k x.A x.n x.c hxn)
    have hsx : 0 ≤ szI x ∧ szI x ≤ 1001 := by unfold szI; split <;> omega
    have q0 : V.cell? ⟨B, 0, none⟩ = some (.int .i64 x.k) := (cell_of_row V B 0 _ _ (0, 0) hB2).trans rfl
    have q1 : V.cell? ⟨B, 1, none⟩ = some (.slice x.A x.n x.c) := (cell_of_row V B 1 _ _ (0, 0) hB2).trans rfl
    have hc := hbx.cell
    have hf := hbx.frozen
    have hmx : Tryz.prog.follows .mixedOrders = true := by kernel_rfl
    have H9 : Hid (∀ w9, Below V.drew.heap.size V.drew w9 → Boxed w9 w1.heap.size 3 (.int .i64 (szO pre))) := Lib.hid (fun w9 hb => (((Below.refl _ V).drew.trans hb).block _ (Boxed.lt hbx)).trans hbx)
    have FIN : Hid (∀ w9, Below V.drew.heap.size V.drew w9 → postM MiR W0.heap.size (fun W W' => Kpk (BdK w1.heap.size) W W' ∧ KU W W') (fun pre W => Boxed W w1.heap.size 3 (.int .i64 (szO pre)) ∧ (w1.heap.size + 3 ≤ W.heap.size ∧ Below w1.heap.size w1 W)) (fun _ _ _ => False) (pre ++ [x]) V .normal { tmps := #[], defers := [] } (w9.setCell ⟨w1.heap.size, 0, none⟩ (.int .i64 (IntKind.i64.wrap (szO pre + szI x))))) := Lib.hid (fun w9 hb9 => by
      rw [show IntKind.i64.wrap (szO pre + szI x) = szO pre + szI x by rw [IntKind.wrap_i64]; omega]
      have hb : Below V.heap.size V w9 := (Below.refl _ V).drew.trans hb9
      have hbx9 := H9.out w9 hb9
      have hkk : Kpk (fun k o => k = w1.heap.size) V (w9.setCell ⟨w1.heap.size, 0, none⟩ (.int .i64 (szO pre + szI x))) :=
        (Kpk.below hb).trans (Kpk.chg (C := fun k => k = w1.heap.size) ((Chg.refl (fun k => k = w1.heap.size) w9).setCell (p := ⟨w1.heap.size, 0, none⟩) (.inl rfl) _) (fun k o _ e => e))
      have hku : KU V (w9.setCell ⟨w1.heap.size, 0, none⟩ (.int .i64 (szO pre + szI x))) := (KU.below hb).trans (KU.set hbx9.cell (fun x e => by cases e) _)
      refine ⟨⟨hkk.size, fun k o hBk hk hbk => hkk.block k o hk (fun e => by omega)⟩, ⟨hkk.mono (fun k o _ e => .inl e), hku⟩, ?_, Nat.le_trans hV3 hkk.size, hbV.trans (hkk.toBelow (by omega) (fun k o hk e => by omega))⟩
      rw [szO_snoc]
      exact hbx9.set _)
    clear hR hall hbV hxn
    generalize szO pre = sp at *
    generalize szI x = sx at *
    obtain ⟨hx1, hx2⟩ := hsx
    have hsp : sp ≤ 20000000 := by omega
    clear hpl hs2
    gi_wp2
    refine wpIn_region_any (by assumption) ?_
    change wpAnyIn _ _ _ _ _ _ _ _ _ (World.drew _)
    refine wpAnyIn_ready (rs := [0, 1]) (by kernel_rfl) (by simp) ?_
    refine AllReadyIn.cons rfl (fun K hK => ?_) ?_
    · go_simp
      refine hK _ _ ?_
      clear hK K
      refine wpAnyIn_ready (rs := [1]) (by kernel_rfl) (by simp) ?_
      refine AllReadyIn.cons rfl (fun K hK => ?_) ?_
      · go_simp
        refine hK _ _ ?_
        clear hK K
        refine wpAnyIn_ready (rs := [2]) (by kernel_rfl) (by simp) ?_
        refine AllReadyIn.cons rfl (fun K hK => ?_) ?_
        · go_simp
          gi_wp2_with ((try refine ⟨trivial, ?_⟩); gi_at_call 47; refine (CallsIn.inRound l (callsIn_wide.2 (HSZ.out _))).mono ?_; rintro e w9 ⟨rfl, hb9⟩; have hbx9 := H9.out w9 hb9; have hc9 := hbx9.cell; have hf9 := hbx9.frozen; clear hbx9; replace hb9 := Lib.hid hb9)
          first | (refine hK _ _ ?_; clear hK K) | skip
          refine wpAnyIn_ready (rs := [3]) (by kernel_rfl) (by simp) ?_
          refine AllReadyIn.cons rfl (fun K hK => ?_) ?_
          · go_simp
            refine hK _ _ ?_
            clear hK K
            refine wpAnyIn_ready (rs := [4]) (by kernel_rfl) (by simp) ?_
            refine AllReadyIn.cons rfl (fun K hK => ?_) ?_
            · go_simp
              refine hK _ _ ?_
              clear hK K
              refine wpAnyIn_done (by kernel_rfl) ?_ _
              exact FIN.out _ hb9.out
            exact AllReadyIn.nil
          exact AllReadyIn.nil
        exact AllReadyIn.nil
      exact AllReadyIn.nil
    refine AllReadyIn.cons rfl (fun K hK => ?_) ?_
    · go_simp
      refine hK _ _ ?_
      clear hK K
      refine wpAnyIn_ready (rs := [0, 2]) (by kernel_rfl) (by simp) ?_
      refine AllReadyIn.cons rfl (fun K hK => ?_) ?_
      · go_simp
        refine hK _ _ ?_
        clear hK K
        refine wpAnyIn_ready (rs := [2]) (by kernel_rfl) (by simp) ?_
        refine AllReadyIn.cons rfl (fun K hK => ?_) ?_
        · go_simp
          gi_wp2_with ((try refine ⟨trivial, ?_⟩); gi_at_call 47; refine (CallsIn.inRound l (callsIn_wide.2 (HSZ.out _))).mono ?_; rintro e w9 ⟨rfl, hb9⟩; have hbx9 := H9.out w9 hb9; have hc9 := hbx9.cell; have hf9 := hbx9.frozen; clear hbx9; replace hb9 := Lib.hid hb9)
          first | (refine hK _ _ ?_; clear hK K) | skip
          refine wpAnyIn_ready (rs := [3]) (by kernel_rfl) (by simp) ?_
          refine AllReadyIn.cons rfl (fun K hK => ?_) ?_
          · go_simp
            refine hK _ _ ?_
            clear hK K
            refine wpAnyIn_ready (rs := [4]) (by kernel_rfl) (by simp) ?_
            refine AllReadyIn.cons rfl (fun K hK => ?_) ?_
            · go_simp
              refine hK _ _ ?_
              clear hK K
              refine wpAnyIn_done (by kernel_rfl) ?_ _
              exact FIN.out _ hb9.out
            exact AllReadyIn.nil
          exact AllReadyIn.nil
        exact AllReadyIn.nil
      refine AllReadyIn.cons rfl (fun K hK => ?_) ?_
      · go_simp
        gi_wp2_with ((try refine ⟨trivial, ?_⟩); gi_at_call 47; refine (CallsIn.inRound l (callsIn_wide.2 (HSZ.out _))).mono ?_; rintro e w9 ⟨rfl, hb9⟩; have hbx9 := H9.out w9 hb9; have hc9 := hbx9.cell; have hf9 := hbx9.frozen; clear hbx9; replace hb9 := Lib.hid hb9)
        first | (refine hK _ _ ?_; clear hK K) | skip
        refine wpAnyIn_ready (rs := [0]) (by kernel_rfl) (by simp) ?_
        refine AllReadyIn.cons rfl (fun K hK => ?_) ?_
        · go_simp
          refine hK _ _ ?_
          clear hK K
          refine wpAnyIn_ready (rs := [3]) (by kernel_rfl) (by simp) ?_
          refine AllReadyIn.cons rfl (fun K hK => ?_) ?_
          · go_simp
            refine hK _ _ ?_
            clear hK K
            refine wpAnyIn_ready (rs := [4]) (by kernel_rfl) (by simp) ?_
            refine AllReadyIn.cons rfl (fun K hK => ?_) ?_
            · go_simp
              refine hK _ _ ?_
              clear hK K
              refine wpAnyIn_done (by kernel_rfl) ?_ _
              exact FIN.out _ hb9.out
            exact AllReadyIn.nil
          exact AllReadyIn.nil
        exact AllReadyIn.nil
      exact AllReadyIn.nil
    exact AllReadyIn.nil
  case done =>
    rintro D' xs V hD hR ⟨hbx, hV3, hbV⟩ hK
    have hc := hbx.cell
    gi_wp2
    refine ⟨by simp, .inl ⟨_, _, rfl, run_takeDeferred hK, ?_⟩⟩
    exact ⟨_, results_tmp rfl _ _ _, gs, xs, hsg, hR, rfl, hBE.out _ (hbV.trans (belowK_b (w := w1) (Nat.le_refl _) _ D' _ _ (by omega) hK rfl rfl))⟩
  case stop =>
    rintro D c pre V _ _ h _
    exact h.elim
end Go.Proofs.YtejmmjedognaaaaGreat
