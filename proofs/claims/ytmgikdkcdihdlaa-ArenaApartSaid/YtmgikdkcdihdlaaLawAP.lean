/-
  THE LAW ArenaApart.
-/
import Derived.Test.YtmgikdkcdihdlaaAnK
import Derived.Deep.CutBlock
import Derived.Deep.CutRange
namespace Go.Proofs.Ytmgikdkcdihdlaa
open Go.RowKit
open An

/-- What stands while regions are taken. -/
structure ApF (T bud beh : Int) (L : List (Int × Int)) (last : Int) : Prop where
  ok : Ok T ⟨bud, beh, 0, L⟩
  last0 : 0 ≤ last
  last1 : last ≤ beh
  le : 0 < bud → sumn L ≤ bud
def fs (L : List (Int × Int)) : List Int := L.map fun p => p.1
def ss (L : List (Int × Int)) : List Int := L.map fun p => p.2
set_option maxRecDepth 100000 in
theorem fs_len (L : List (Int × Int)) : (fs L).length = L.length := by simp [fs]
set_option maxRecDepth 100000 in
theorem ss_len (L : List (Int × Int)) : (ss L).length = L.length := by simp [ss]
set_option maxRecDepth 100000 in
theorem fs_snoc (L : List (Int × Int)) (p : Int × Int) : fs (L ++ [p]) = fs L ++ [p.1] := by simp [fs]
set_option maxRecDepth 100000 in
theorem ss_snoc (L : List (Int × Int)) (p : Int × Int) : ss (L ++ [p]) = ss L ++ [p.2] := by simp [ss]

set_option maxRecDepth 100000 in
theorem rem_snoc {L : List (Int × Int)} {k n : Int} (h : fnd k L = none) : rem k (L ++ [(k, n)]) = L := by
  induction L with
  | nil => simp [rem]
  | cons a L ih =>
    simp only [fnd] at h
    by_cases e : a.1 = k
    · rw [if_pos e] at h; cases h
    · rw [if_neg e] at h
      simp only [List.cons_append, rem, if_neg e, ih h]
set_option maxRecDepth 100000 in
theorem usedV {w : World} {S b : Nat} {s : Ars} {T : Int} (h : Arn w S b s) (hT : Ok T s) (hT2 : T ≤ 1000) {x : Int} (hx : sumn s.L + s.chg = x) :
    Calls Try.prog 18 #[.pointer (some ⟨S, 0, none⟩)] w fun r w' => r = .returned (.int .i64 x) ∧ ∃ q, w' = w.drewN q := by
  subst hx
  exact used_any h hT hT2
set_option maxRecDepth 100000 in
theorem giveV {w : World} {S b : Nat} {s s' : Ars} {T : Int} (h : Arn w S b s) (hT : Ok T s) (hT2 : T ≤ 1000) (k : Int) (hk : 0 ≤ k ∧ k ≤ 1000000000000) (hx : (fnd k s.L).isSome = true) (hs : giveS s k = s') :
    Calls Try.prog 12 #[.pointer (some ⟨S, 0, none⟩), .int .i64 k] w fun r w' => r = .returned (.bool true) ∧ AnP w S b s' w' := by
  subst hs
  rw [← hx]
  exact giveA_any h hT hT2 k (WalkArith.wf_i64 (by omega))
set_option maxRecDepth 100000 in
theorem ApI.pop {W w : World} {S b : Nat} {s : Ars} {g1 g2 c1 c2 : Nat} {xs ys : List Int} {x y : Int} (h : ApI W S b s (some ⟨g1, 0, none⟩) (some ⟨g2, 0, none⟩) c1 c2 (xs ++ [x]) (ys ++ [y]) w) : ApI W S b s (some ⟨g1, 0, none⟩) (some ⟨g2, 0, none⟩) c1 c2 xs ys w :=
  ⟨h.a, h.r1.pop, h.r2.pop, h.dis, h.hS, h.hb, h.be⟩
set_option maxRecDepth 100000 in
theorem ApI.cap {W w : World} {S b : Nat} {s : Ars} {A M : Option Addr} {c1 c2 : Nat} {L : List (Int × Int)} {x y : Int} (h : ApI W S b s A M c1 c2 (fs L ++ [x]) (ss L ++ [y]) w) : (L.length ≤ c1 ∧ c1 ≤ 9223372036854775807) ∧ L.length ≤ c2 ∧ c2 ≤ 9223372036854775807 := by
  have h1 := h.r1.bound
  have h2 := h.r2.bound
  simp only [List.length_append, List.length_cons, List.length_nil, fs_len, ss_len] at h1 h2
  unfold maxLen at h1 h2
  omega
set_option maxRecDepth 100000 in
theorem ss_get {L : List (Int × Int)} {j : Nat} (h : j < L.length) : (ss L).getD j 0 = (rg L j).2 := by simp [ss, rg, h]
set_option maxRecDepth 100000 in
theorem fs_get {L : List (Int × Int)} {j : Nat} (h : j < L.length) : (fs L).getD j 0 = (rg L j).1 := by simp [fs, rg, h]
set_option maxRecDepth 100000 in
theorem drop_rg {L : List (Int × Int)} {j : Nat} (h : j < L.length) : L.drop j = rg L j :: L.drop (j + 1) := by
  rw [List.drop_eq_getElem_cons h]
  simp [rg, h]
set_option maxRecDepth 100000 in
theorem ok_drop {T bud beh : Int} {L : List (Int × Int)} (h : Ok T ⟨bud, beh, 0, L⟩) (j : Nat) : Ok T ⟨bud, beh, 0, L.drop j⟩ := by
  have hl : (L.drop j).length ≤ L.length := by rw [List.length_drop]; omega
  have h1 := h.len
  simp only at h1
  exact ⟨by simp only; omega, h.bud, h.beh, h.chg, fun p hp => h.el p (List.mem_of_mem_drop hp), h.dis.sublist (List.drop_sublist j L)⟩

set_option maxRecDepth 100000 in
set_option maxRecDepth 100000 in
set_option maxHeartbeats 8000000 in
theorem arenaApart_walk {W : World} (budget : Int) {B : Option Addr} {m c : Nat} {zs : List Int} (h : Ns W B m zs) (bits : Int) :
    Calls Try.prog 4 #[.int .i64 budget, .slice B m c, .int .i64 bits] W fun r w' => r = .returned (.bool true) ∧ Below W.heap.size W w' := by
  obtain ⟨bud, hbud0, hbud, hlow⟩ : ∃ bud : Int, 0 ≤ bud ∧ bud < 2000 ∧ ∀ w : World, Calls Try.prog 21 #[.int .i64 budget, .int .i64 2000] w fun e w' => e = .returned (.int .i64 bud) ∧ w = w' := by
    obtain ⟨r, h1, h2⟩ := low_int budget 2000 (by omega) (by omega)
    exact ⟨(r : Int), by omega, h1, h2⟩
  have HL := Lib.hid hlow
  have HA := Lib.hid h
  clear hlow h
  by_cases hm : m ≤ 60
  · have hd0 : decide ((60 : Int) < (m : Int)) = false := decide_eq_false (by omega)
    have HN := Lib.hid (newA_any bud (by omega) W)
    go_enter Try.func4, Try.ntmps4
    go_wp2_with (first
      | (go_at_call 21; (with_reducible refine (HL.out _).mono ?_); rintro r w0 ⟨rfl, rfl⟩)
      | (go_at_call 7; (with_reducible refine HN.out.mono ?_); rintro r w1 ⟨rfl, h1, h2, h3⟩; replace h1 := Lib.hid h1; replace h2 := Lib.hid h2; replace h3 := Lib.hid h3; clear HN))
    have HI : Hid (ApI W (W.heap.size + 1) W.heap.size ⟨bud, 0, 0, []⟩ none none 0 0 (fs []) (ss []) w1) := Lib.hid
      ⟨h1.out, Rwi.nil _ _, Rwi.nil _ _, (fun k hk => by cases hk), by omega, Nat.le_refl _, h2.out⟩
    have HF : Hid (ApF 0 bud 0 [] 0) := Lib.hid ⟨Ok.new (by omega), Int.le_refl _, Int.le_refl _, fun h => by simp only [sumn]; omega⟩
    clear h1 h2 h3
    generalize W.heap.size + 1 = S at HI ⊢
    generalize hwb : W.heap.size = b at HI ⊢
    replace hwb := Lib.hid hwb
    go_loopw [8, 9, 10, 11] (fun v8 v9 v10 v11 w' => ∃ (i : Nat) (beh last : Int) (L : List (Int × Int)) (A M : Option Addr) (ca cm : Nat), i ≤ m ∧ v11 = .int .i64 (i : Int) ∧ v10 = .int .i64 last ∧ v8 = .slice A L.length ca ∧ v9 = .slice M L.length cm ∧ ApI W S b ⟨bud, beh, 0, L⟩ A M ca cm (fs L) (ss L) w' ∧ ApF (i : Int) bud beh L last) (fun _ _ _ v11 _ => m - (intOf v11).toNat)
    case atStart => exact ⟨0, 0, 0, [], none, none, 0, 0, Nat.zero_le _, rfl, rfl, rfl, rfl, HI.out, HF.out⟩
    case round =>
      clear HI HF
      obtain ⟨i, beh, last, L, A, M, ca, cm, hi, rfl, rfl, rfl, rfl, hap, hfa⟩ := hrel
      by_cases him : i < m
      · have hd1 : decide ((i : Int) < (m : Int)) = true := decide_eq_true (by omega)
        obtain ⟨bb, o, z, rfl, _, _, y0, _, _⟩ := (HA.out.below (hap.be.mono (Nat.le_refl _))).get i him
        obtain ⟨r, hr, hlow2⟩ := low_int z 100 (by omega) (by omega)
        have HL2 := Lib.hid hlow2
        clear hlow2
        have hok := hfa.ok
        have hokl := hok.len
        have hos := hok.sum
        have hob := hok.beh
        have hl0 := hfa.last0
        have hl1 := hfa.last1
        have hle := Lib.hid hfa.le
        simp only at hokl hos hob
        go_upto_region 13 with (go_at_call 21; (with_reducible refine (HL2.out _).mono ?_); rintro r w0 ⟨rfl, rfl⟩)
        generalize hn : 1 + (r : Int) = n
        clear HL2
        have HT := Lib.hid (fun (q : Nat) => takeA_any (hap.a.drewN q) hok (by omega) n)
        have HU := Lib.hid (fun (w : World) (h : Arn w S b ⟨bud, beh, 0, L⟩) => usedV h hok (by omega) (x := sumn L) (by simp))
        have HP := Lib.hid hap
        rcases wr_cases ⟨bud, beh, 0, L⟩ n 1 with ⟨e, h2⟩ | ⟨e, h2, h3, h4⟩ | ⟨e, h2, h3⟩
        · omega
        · have et : takeO ⟨bud, beh, 0, L⟩ n = 0 := by unfold takeO; rw [if_neg (by omega)]
          have es : takeS ⟨bud, beh, 0, L⟩ n = ⟨bud, beh, 0, L⟩ := by unfold takeS; rw [if_neg (by omega)]
          rw [et, es, e] at HT
          simp only at h3 h4
          have hF := Lib.hid (show ApF ((i + 1 : Nat) : Int) bud beh L last from ⟨hok.mono (by omega), hl0, hl1, hle.out⟩)
          have hb1 : (bud == 0) = false := beq_eq_false_iff_ne.2 (by omega)
          have hb2 : decide (0 < bud) = true := decide_eq_true h3
          have hb3 : decide (sumn L + n ≤ bud) = false := decide_eq_false (by omega)
          have hb4 : decide (bud < sumn L) = false := decide_eq_false (by have := hle.out h3; omega)
          clear et es e h3 h4 hok hfa hap hle
          go_wp2_with (first
            | (go_at_call 9; (with_reducible refine (HT.out _).mono ?_); rintro r w3 ⟨rfl, hp⟩; have HP2 := Lib.hid ((HP.out.drewN _).of hp); clear hp)
            | (go_at_call 18; first | ((with_reducible refine (HU.out _ HP2.out.a).mono ?_); rintro r w5 ⟨rfl, q5, rfl⟩) | ((with_reducible refine (HU.out _ HP.out.a).mono ?_); rintro r w2 ⟨rfl, q, rfl⟩)))
          exact ⟨⟨i + 1, beh, last, L, A, M, ca, cm, by omega, rfl, rfl, rfl, rfl, HP2.out.drewN _, hF.out⟩, by simp [intOf]; omega⟩
        · have et : takeO ⟨bud, beh, 0, L⟩ n = beh + 1 := by unfold takeO; rw [if_pos e]
          have es : takeS ⟨bud, beh, 0, L⟩ n = ⟨bud, beh + 1 + n, 0, L ++ [(beh + 1, n)]⟩ := by unfold takeS; rw [if_pos e]
          have hsn := sumn_snoc L (beh + 1, n)
          have hok2 : Ok ((i : Int) + 1) ⟨bud, beh + 1 + n, 0, L ++ [(beh + 1, n)]⟩ := by have := hok.take n; rwa [es] at this
          have hfr : fnd (beh + 1) L = none := fnd_none.2 hok.fresh
          have eg : giveS ⟨bud, beh + 1 + n, 0, L ++ [(beh + 1, n)]⟩ (beh + 1) = ⟨bud, beh + 1 + n, 0, L⟩ := by unfold giveS; rw [rem_snoc hfr]
          have hok3 : Ok ((i : Int) + 1) ⟨bud, beh + 1 + n, 0, L⟩ := by have := hok2.give (beh + 1); rwa [eg] at this
          have hsm : (fnd (beh + 1) (L ++ [(beh + 1, n)])).isSome = true := by rw [fnd_snoc L _ _ hok.fresh, if_pos rfl]; rfl
          rw [et, es, e] at HT
          simp only at h3
          have HU2 := Lib.hid (fun (w : World) (h : Arn w S b ⟨bud, beh + 1 + n, 0, L ++ [(beh + 1, n)]⟩) => usedV h hok2 (by omega) (x := sumn L + n) (by simp [hsn]))
          have HU3 := Lib.hid (fun (w : World) (h : Arn w S b ⟨bud, beh + 1 + n, 0, L⟩) => usedV h hok3 (by omega) (x := sumn L) (by simp))
          have HG := Lib.hid (fun (w : World) (h : Arn w S b ⟨bud, beh + 1 + n, 0, L ++ [(beh + 1, n)]⟩) => giveV h hok2 (by omega) (beh + 1) (by omega) hsm eg)
          have hF := Lib.hid (show ApF ((i + 1 : Nat) : Int) bud (beh + 1 + n) (L ++ [(beh + 1, n)]) (beh + 1 + n - 1) from ⟨hok2.mono (by omega), by omega, by omega, fun h => by rw [hsn]; simp only; omega⟩)
          have hG := Lib.hid (show ApF ((i + 1 : Nat) : Int) bud (beh + 1 + n) L (beh + 1 + n - 1) from ⟨hok3.mono (by omega), by omega, by omega, hle.out⟩)
          have hmod : (i : Int).tmod 60 = (i : Int) := Int.tmod_eq_of_lt (by omega) (by omega)
          have hlb : decide (beh + 1 ≤ last) = false := decide_eq_false (by omega)
          have hbb : ((bud == 0) = true ∧ decide (0 < bud) = false ∧ decide (sumn L + n ≤ bud) = decide (sumn L + n ≤ bud)) ∨ ((bud == 0) = false ∧ decide (0 < bud) = true ∧ decide (sumn L + n ≤ bud) = true) := by
            rcases h3 with h3 | ⟨h3, h4⟩
            · exact .inl ⟨beq_iff_eq.2 (by omega), decide_eq_false (by omega), rfl⟩
            · exact .inr ⟨beq_eq_false_iff_ne.2 (by omega), decide_eq_true (by omega), decide_eq_true (by omega)⟩
          have hbd : decide (0 < bud) = true → decide (bud < sumn L + n) = false := fun h => by
            have := of_decide_eq_true h
            exact decide_eq_false (by omega)
          clear et es e h3 hok hok2 hok3 hfa hap hle hsn hfr eg hsm
          rcases hbb with ⟨hb1, hb2, _⟩ | ⟨hb1, hb2, hb3⟩
          · clear hbd
            go_wp2_with (first
              | (go_at_call 18; first | ((with_reducible refine (HU3.out _ HP7.out.a).mono ?_); rintro r w8 ⟨rfl, q8, rfl⟩) | ((with_reducible refine (HU2.out _ HP3.out.a).mono ?_); rintro r w5 ⟨rfl, q5, rfl⟩; obtain ⟨g1, c1, w4, g2, c2, w6, t1, t2, t3⟩ := ap_prep (HP3.out.drewN q5) (by rw [fs_len]; omega) (by rw [ss_len]; omega) (beh + 1) n; rw [fs_len] at t1; rw [ss_len] at t2; replace t1 := Lib.hid t1; replace t2 := Lib.hid t2; replace t3 := Lib.hid t3) | ((with_reducible refine (HU.out _ HP.out.a).mono ?_); rintro r w2 ⟨rfl, q, rfl⟩))
              | (go_at_call 9; (with_reducible refine (HT.out _).mono ?_); rintro r w3 ⟨rfl, hp⟩; have HP3 := (HP.out.drewN _).of hp; obtain ⟨g1, c1, w4, g2, c2, w6, t1, t2, t3⟩ := ap_prep HP3 (by rw [fs_len]; omega) (by rw [ss_len]; omega) (beh + 1) n; rw [fs_len] at t1; rw [ss_len] at t2; replace t1 := Lib.hid t1; replace t2 := Lib.hid t2; replace t3 := Lib.hid t3; replace HP3 := Lib.hid HP3; clear hp)
              | (at_builtin; first | (refine wpApp rfl (.tmp 86) (.tmp 88) _ rfl _ _ _ rfl rfl t1.out ?_) | (refine wpApp rfl (.tmp 90) (.tmp 92) _ rfl _ _ _ rfl rfl t2.out ?_))
              | (go_at_call 12; (with_reducible refine (HG.out _ t3.out.a).mono ?_); rintro r w7 ⟨rfl, hp7⟩; have HP7 := Lib.hid (t3.out.of hp7); obtain ⟨⟨k1, k2⟩, k3, k4⟩ := HP7.out.cap; clear hp7))
            · go_region
              all_goals
                go_wp2_with fail
                exact ⟨⟨i + 1, beh + 1 + n, beh + 1 + n - 1, L, some ⟨g1, 0, none⟩, some ⟨g2, 0, none⟩, c1, c2, by omega, rfl, rfl, rfl, rfl, (HP7.out.pop).drewN _, hG.out⟩, by simp [intOf]; omega⟩
            · exact ⟨⟨i + 1, beh + 1 + n, beh + 1 + n - 1, L ++ [(beh + 1, n)], some ⟨g1, 0, none⟩, some ⟨g2, 0, none⟩, c1, c2, by omega, rfl, rfl, by simp, by simp, by rw [fs_snoc, ss_snoc]; exact t3.out, hF.out⟩, by simp [intOf]; omega⟩
          · have hb4 := hbd hb2
            clear hbd
            go_wp2_with (first
              | (go_at_call 18; first | ((with_reducible refine (HU3.out _ HP7.out.a).mono ?_); rintro r w8 ⟨rfl, q8, rfl⟩) | ((with_reducible refine (HU2.out _ HP3.out.a).mono ?_); rintro r w5 ⟨rfl, q5, rfl⟩; obtain ⟨g1, c1, w4, g2, c2, w6, t1, t2, t3⟩ := ap_prep (HP3.out.drewN q5) (by rw [fs_len]; omega) (by rw [ss_len]; omega) (beh + 1) n; rw [fs_len] at t1; rw [ss_len] at t2; replace t1 := Lib.hid t1; replace t2 := Lib.hid t2; replace t3 := Lib.hid t3) | ((with_reducible refine (HU.out _ HP.out.a).mono ?_); rintro r w2 ⟨rfl, q, rfl⟩))
              | (go_at_call 9; (with_reducible refine (HT.out _).mono ?_); rintro r w3 ⟨rfl, hp⟩; have HP3 := (HP.out.drewN _).of hp; obtain ⟨g1, c1, w4, g2, c2, w6, t1, t2, t3⟩ := ap_prep HP3 (by rw [fs_len]; omega) (by rw [ss_len]; omega) (beh + 1) n; rw [fs_len] at t1; rw [ss_len] at t2; replace t1 := Lib.hid t1; replace t2 := Lib.hid t2; replace t3 := Lib.hid t3; replace HP3 := Lib.hid HP3; clear hp)
              | (at_builtin; first | (refine wpApp rfl (.tmp 86) (.tmp 88) _ rfl _ _ _ rfl rfl t1.out ?_) | (refine wpApp rfl (.tmp 90) (.tmp 92) _ rfl _ _ _ rfl rfl t2.out ?_))
              | (go_at_call 12; (with_reducible refine (HG.out _ t3.out.a).mono ?_); rintro r w7 ⟨rfl, hp7⟩; have HP7 := Lib.hid (t3.out.of hp7); obtain ⟨⟨k1, k2⟩, k3, k4⟩ := HP7.out.cap; clear hp7))
            · go_region
              all_goals
                go_wp2_with fail
                exact ⟨⟨i + 1, beh + 1 + n, beh + 1 + n - 1, L, some ⟨g1, 0, none⟩, some ⟨g2, 0, none⟩, c1, c2, by omega, rfl, rfl, rfl, rfl, (HP7.out.pop).drewN _, hG.out⟩, by simp [intOf]; omega⟩
            · exact ⟨⟨i + 1, beh + 1 + n, beh + 1 + n - 1, L ++ [(beh + 1, n)], some ⟨g1, 0, none⟩, some ⟨g2, 0, none⟩, c1, c2, by omega, rfl, rfl, by simp, by simp, by rw [fs_snoc, ss_snoc]; exact t3.out, hF.out⟩, by simp [intOf]; omega⟩
      · have hd1 : decide ((i : Int) < (m : Int)) = false := decide_eq_false (by omega)
        have hok := hfa.ok
        have hokl := hok.len
        have hob := hok.beh
        have hos := hok.sum
        simp only at hokl hob hos
        have hts := Lib.hid (fun (j : Nat) => sumn_takes hok j)
        have hel := Lib.hid (fun (p : Int × Int) (hp : p ∈ L) => hok.el p hp)
        have HU := Lib.hid (fun (w : World) (h : Arn w S b ⟨bud, beh, 0, L⟩) => usedV h hok (by omega) (x := sumn L) (by simp))
        have HR := Lib.hid (fun (w : World) (h : Arn w S b ⟨bud, beh, 0, L⟩) => regions_any h)
        have HG := Lib.hid (fun (j : Nat) (hj : j < L.length) (w : World) (h : Arn w S b ⟨bud, beh, 0, L.drop j⟩) => giveV h (ok_drop hok j) (by omega) (rg L j).1 (by have := (hok.el _ (rg_mem hj)).1; simp only at this; omega) (by simp only [drop_rg hj, fnd, if_true]; rfl) (s' := ⟨bud, beh, 0, L.drop (j + 1)⟩) (by unfold giveS; simp only [drop_rg hj, rem, if_true]))
        have HU0 := Lib.hid (fun (w : World) (h : Arn w S b ⟨bud, beh, 0, []⟩) => usedV h (T := (i : Int)) (by have h9 := ok_drop hok L.length; rwa [List.drop_length] at h9) (by omega) (x := 0) rfl)
        have HR0 := Lib.hid (fun (w : World) (h : Arn w S b ⟨bud, beh, 0, []⟩) => regions_any h)
        have HP := Lib.hid hap
        clear hok hfa hap
        go_wp2_with fail
        go_loopw [16, 17] (fun v16 v17 w' => ∃ j : Nat, j ≤ L.length ∧ v17 = .int .i64 (j : Int) ∧ v16 = .int .i64 (sumn (L.take j)) ∧ w' = wr) (fun _ v17 _ => L.length - (intOf v17).toNat)
        case atStart => exact ⟨0, Nat.zero_le _, rfl, by simp [sumn], rfl⟩
        case round =>
          obtain ⟨j, hj, rfl, rfl, rfl⟩ := hrel
          by_cases hjl : j < L.length
          · have hd2 : decide ((j : Int) < (L.length : Int)) = true := decide_eq_true (by omega)
            obtain ⟨g2, rfl⟩ := HP.out.r2.some (by rw [ss_len]; omega)
            have y0 := HP.out.r2.el (i := j) (by rw [ss_len]; exact hjl)
            rw [ss_get hjl] at y0
            have hs := hts.out j
            have hz := (hel.out _ (rg_mem hjl)).2
            have hS := Lib.hid (rg_take L j hjl)
            generalize sumn (L.take j) = z at *
            go_wp2_with fail
            exact ⟨⟨j + 1, by omega, rfl, by rw [hS.out], trivial⟩, by simp [intOf]; omega⟩
          · have ej : j = L.length := by omega
            subst ej
            have hd2 : decide ((L.length : Int) < (L.length : Int)) = false := decide_eq_false (by omega)
            rw [List.take_of_length_le (Nat.le_refl _)]
            go_wp2_with (first
              | (go_at_call 18; (with_reducible refine (HU.out _ HP.out.a).mono ?_); rintro r w5 ⟨rfl, q5, rfl⟩)
              | (go_at_call 20; (with_reducible refine (HR.out _ (HP.out.a.drewN q5)).mono ?_); rintro r w6 ⟨rfl, rfl⟩))
            go_loopw [18] (fun v18 w' => ∃ j : Nat, j ≤ L.length ∧ v18 = .int .i64 (j : Int) ∧ ApI W S b ⟨bud, beh, 0, L.drop j⟩ A M ca cm (fs L) (ss L) w') (fun v18 _ => L.length - (intOf v18).toNat)
            case atStart => exact ⟨0, Nat.zero_le _, rfl, HP.out.drewN _⟩
            case round =>
              obtain ⟨j, hj, rfl, hq⟩ := hrel
              have HQ := Lib.hid hq
              by_cases hjl : j < L.length
              · have hd3 : decide ((j : Int) < (L.length : Int)) = true := decide_eq_true (by omega)
                obtain ⟨g1, rfl⟩ := hq.r1.some (by rw [fs_len]; omega)
                have y0 := hq.r1.el (i := j) (by rw [fs_len]; exact hjl)
                rw [fs_get hjl] at y0
                have HG1 := Lib.hid (HG.out j hjl _ hq.a)
                clear hq
                generalize (rg L j).1 = z at *
                go_wp2_with (go_at_call 12; (with_reducible refine HG1.out.mono ?_); rintro r w7 ⟨rfl, hp7⟩; have HQ7 := Lib.hid (HQ.out.of hp7); clear hp7)
                exact ⟨⟨j + 1, by omega, rfl, HQ7.out⟩, by simp [intOf]; omega⟩
              · have ej : j = L.length := by omega
                subst ej
                have hd3 : decide ((L.length : Int) < (L.length : Int)) = false := decide_eq_false (by omega)
                rw [List.drop_length] at HQ
                clear hq
                go_wp2_with (first
                  | (go_at_call 18; (with_reducible refine (HU0.out _ HQ.out.a).mono ?_); rintro r w5 ⟨rfl, q6, rfl⟩)
                  | (go_at_call 20; (with_reducible refine (HR0.out _ (HQ.out.a.drewN q6)).mono ?_); rintro r w6 ⟨rfl, rfl⟩)
                  | (go_at_call 6; (with_reducible refine (awake11 _).mono ?_); rintro r w6 ⟨rfl, hb6⟩; have I9 := Lib.hid ((HQ.out.drewN q6).below hb6); clear hb6))
                go_ret
                exact ⟨rfl, I9.out.be⟩
  · go_enter Try.func4, Try.ntmps4
    have hd0 : decide ((60 : Int) < (m : Int)) = true := decide_eq_true (by omega)
    go_wp2_with (first
      | (go_at_call 21; (with_reducible refine (HL.out _).mono ?_); rintro r w0 ⟨rfl, rfl⟩)
      | (go_at_call 6; (with_reducible refine (awake11 _).mono ?_); rintro r w6 ⟨rfl, hb6⟩))
    go_ret
    exact ⟨rfl, hb6⟩
end Go.Proofs.Ytmgikdkcdihdlaa
