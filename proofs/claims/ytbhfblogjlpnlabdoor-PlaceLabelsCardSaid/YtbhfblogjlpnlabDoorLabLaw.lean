/-
  The law PlaceLabels answers true. Conditions: the handle of the type error; the items', the words' and the symbols' cells are there; numbers in their bounds.
-/
import Derived.Test.YtbhfblogjlpnlabDoorRefLabels
import Derived.Test.YtbhfblogjlpnlabDoorLiesLaw
namespace Go.Proofs.YtbhfblogjlpnlabDoor
open Go.RowKit

set_option maxRecDepth 100000 in
set_option maxHeartbeats 2000000 in
theorem same_syms (Y : Nat → Sy) (A1 A2 : Option Addr) (n c1 c2 : Nat) (hn : n ≤ 5000) (hc : ∀ j, j < n → (Y j).cls = 1) (w : World) (h1 : SymsIn w.heap.size Y w A1 n) (h2 : SymsIn w.heap.size Y w A2 n) :
    Calls Tryd.prog 39 #[.slice A1 n c1, .slice A2 n c2] w fun e w' => e = .returned (.bool true) ∧ Below w.heap.size w w' := by
  have H1 := Lib.hid h1
  have H2 := Lib.hid h2
  have HC := Lib.hid hc
  clear h1 h2 hc
  go_enter Tryd.func39, Tryd.ntmps39
  go_wp2_with fail
  go_loopg [5] n (fun g i wr => ∃ k : Nat, k + g = n ∧ i = .int .i64 k ∧ Drawn w wr)
  case atStart => exact ⟨0, Nat.zero_add _, rfl, Drawn.start w⟩
  case round =>
    obtain ⟨k, hk, rfl, hd⟩ := hrel
    have hk' : k ≤ n := by omega
    have HK := Lib.hid hk
    have HD := Lib.hid hd
    clear hk hd
    by_cases hlt : k < n
    · obtain ⟨B, O, hA, _, a0, a1, a2⟩ := (H1.out.below HD.out.below HD.out.below.size) k hlt
      obtain ⟨B2, O2, hA2, _, b0, b1, b2⟩ := (H2.out.below HD.out.below HD.out.below.size) k hlt
      subst hA
      subst hA2
      rw [HC.out k hlt] at a2 b2
      go_wp2_with fail
      go_quiet (fail)
      go_wp2_with fail
      go_roundg (gk - 1)
      case measure => have := HK.out; omega
      case rel => exact ⟨k + 1, by have := HK.out; omega, by go_num, HD.out.more _⟩
    · obtain rfl : k = n := by omega
      go_wp2_with fail
      go_ret
      exact ⟨rfl, HD.out.below⟩

theorem labs_cls (p : Lb) : ∀ k y, y ∈ p.labs k → y.cls = 1
  | 0, y, h => by simp [Lb.labs] at h
  | k + 1, y, h => by
    unfold Lb.labs at h
    split at h
    · rcases List.mem_append.1 h with h | h
      · exact labs_cls p k y h
      · rw [List.mem_singleton.1 h]; rfl
    · exact labs_cls p k y h

theorem ItsIn.all {F : Nat → Itm} {w : World} {A : Option Addr} {n : Nat} (h : ItsIn w.heap.size F w A n) {w' : World} (hb : Below w.heap.size w w') : ItsIn w'.heap.size F w' A n := h.at_ hb

set_option maxRecDepth 100000 in
set_option maxHeartbeats 1500000 in
theorem labels_law (A : Option Addr) (n cap : Nat) (Aa : Option Addr) (na capa : Nat) (As : Option Addr) (m caps : Nat) (F : Nat → Itm) (V : Nat → Int) (Y : Nat → Sy) (W : World) (hg : Handle W) (ha : PlaceArgs W A n F) (hV : WdsB W.heap.size V W Aa na) (hY : SymsIn W.heap.size Y W As m) (hym : ∀ j, j < m → (Y j).nm.size ≤ 140737488351232) (_hm : m ≤ 140737488351232) :
    Calls Tryd.prog 9 #[.slice A n cap, .slice Aa na capa, .slice As m caps] W fun e w' => e = .returned (.bool true) ∧ Below W.heap.size W w' := by
  have HA := Lib.hid ha
  have HV := Lib.hid hV
  have HY := Lib.hid hY
  have HYM := Lib.hid hym
  have HG := Lib.hid hg
  have heq := eql_faults
  clear ha hV hY hym
  go_enter Tryd.func9, Tryd.ntmps9
  go_wp2_with fail
  refine (awake_any W hg).mono ?_
  rintro e w1 ⟨rfl, hb1⟩
  have HB1 := Lib.hid hb1
  clear hb1 hg
  go_wp2_with fail
  refine (light_any F A n cap w1 HA.out.few (HA.out.its.at_ HB1.out) HA.out.nm).mono ?_
  rintro e w2 ⟨r, rfl, hr, hb2⟩
  have HB2 := Lib.hid (HB1.out.trans (hb2.mono HB1.out.size))
  have HR := Lib.hid hr
  clear hb2 hr
  cases r with
  | false =>
    go_wp2
    go_ret
    exact ⟨rfl, HB2.out⟩
  | true =>
    obtain ⟨hfew, hnm⟩ := HR.out rfl
    have HNM := Lib.hid hnm
    clear hnm
    by_cases hm : m ≤ 100
    · have hm2 : ¬ (100 : Int) < m := by omega
      go_wp2_with fail
      refine (syms_any Y As m caps hm w2 (HY.out.below HB2.out HB2.out.size)).mono ?_
      rintro e w3 ⟨v3, rfl, hrow3, hb3⟩
      have HB3 := Lib.hid (HB2.out.trans (hb3.mono HB2.out.size))
      have hl3 : (ourSyms Y m).length = m := ourSyms_len Y m
      obtain ⟨A3, cap3, e3, hs3⟩ := SymsIn.of_row (l := ourSyms Y m) (v := v3) (b0 := w2.heap.size) (w := w3) (T := 131) (by rw [hl3]; exact hrow3)
      subst e3
      rw [hl3] at hs3
      rw [hl3]
      have HS3 := Lib.hid hs3
      clear hrow3 hb3 hs3 hl3
      have hYY : ∀ j, j < m → ((ourSyms Y m).getD j default).nm = (Y j).nm := fun j hj => by simp [ourSyms, hj, ourSy]
      have hTT : ((List.range m).map fun j => ((ourSyms Y m).getD j default).nm.data.toList) = (List.range m).map fun j => (Y j).nm.data.toList := List.map_congr_left (fun j hj => by rw [hYY j (List.mem_range.1 hj)])
      have HYY := Lib.hid hYY
      have HTT := Lib.hid hTT
      clear hYY hTT
      go_wp2_with fail
      refine (labels_any ⟨F, n, V, na, (List.range m).map fun j => (Y j).nm.data.toList⟩ (fun j => (ourSyms Y m).getD j default) m HTT.out.symm (by show n ≤ 400; omega) (by omega) HNM.out (fun j hj => by rw [HYY.out j hj]; exact HYM.out j hj) A cap Aa capa A3 cap3 w3
        (HG.out.below HB3.out HG.out.pos) (HA.out.its.at_ HB3.out) (HV.out.below HB3.out HB3.out.size) HS3.out).mono ?_
      rintro e w4 ⟨h4, hb4⟩
      have HB4 := Lib.hid (HB3.out.trans (hb4.mono HB3.out.size))
      have href := refLabels_any ⟨F, n, V, na, (List.range m).map fun j => (Y j).nm.data.toList⟩ Y m rfl (by show n ≤ 400; omega) (by omega) A cap Aa capa As caps w4 (HA.out.its.at_ HB4.out) (HV.out.below HB4.out HB4.out.size) (HY.out.below HB4.out HB4.out.size)
      clear hb4
      rcases h4 with ⟨hall, v4, rfl, hrow⟩ | ⟨k, hk, hlt, hw, b, rfl, hbb, hkk⟩
      · obtain ⟨A4, cap4, e4, hs4⟩ := SymsIn.of_row hrow
        subst e4
        have HS4 := Lib.hid hs4
        have HALL := Lib.hid hall
        clear hrow hall hs4
        go_wp2_with fail
        refine href.mono ?_
        rintro e w5 ⟨h5, hb5⟩
        clear href
        rcases h5 with ⟨_, v5, rfl, hrow5⟩ | ⟨k, hk, _, hw, _⟩
        case inr => exact absurd hw (by rw [HALL.out k hk]; decide)
        obtain ⟨A5, cap5, e5, hs5⟩ := SymsIn.of_row hrow5
        subst e5
        have HB5 := Lib.hid (HB4.out.trans (hb5.mono HB4.out.size))
        have hk0 : Kept w5 0 0 0 .nilIface 39 #[.slice A4 (Lb.labs (⟨F, n, V, na, (List.range m).map fun j => (Y j).nm.data.toList⟩ : Lb) n).length cap4, .slice A5 (Lb.labs (⟨F, n, V, na, (List.range m).map fun j => (Y j).nm.data.toList⟩ : Lb) n).length cap5] (w5.alloc (.cells #[.int .i64 0, .int .i64 0, .int .i64 0] 25)) :=
          ⟨Below.refl _ _, fun W' _ => fault_nil W', fun W' hb => same_syms (fun j => (Lb.labs (⟨F, n, V, na, (List.range m).map fun j => (Y j).nm.data.toList⟩ : Lb) n).getD j default) _ _ _ _ _ (by have := Lb.labs_len (⟨F, n, V, na, (List.range m).map fun j => (Y j).nm.data.toList⟩ : Lb) n; show (Lb.labs (⟨F, n, V, na, (List.range m).map fun j => (Y j).nm.data.toList⟩ : Lb) n).length ≤ 5000; omega)
            (fun j hj => by simp only [List.getD_eq_getElem?_getD, List.getElem?_eq_getElem hj, Option.getD_some]; exact labs_cls (⟨F, n, V, na, (List.range m).map fun j => (Y j).nm.data.toList⟩ : Lb) n _ (List.getElem_mem hj)) W'
            ((HS4.out.below (hb5.trans (((Below.refl _ _).alloc (Nat.le_refl _) _).mono hb5.size)) (by have := hb5.size; simp; omega)).below hb hb.size)
            ((hs5.below ((Below.refl _ _).alloc (Nat.le_refl _) _) (by simp)).below hb hb.size)⟩
        clear hb5 hs5 hrow5
        go_wp2_with fail
        have HK0 := Lib.hid hk0
        clear hk0
        generalize hlen : (Lb.labs (⟨F, n, V, na, (List.range m).map fun j => (Y j).nm.data.toList⟩ : Lb) n).length = ll at *
        clear hlen
        go_region_held3 (fun W => W.cell? ⟨w5.heap.size, 0, none⟩ = some (.int .i64 0) ∧ W.cell? ⟨w5.heap.size, 1, none⟩ = some (.int .i64 0) ∧ W.cell? ⟨w5.heap.size, 2, none⟩ = some (.int .i64 0) ∧ Kept w5 0 0 0 .nilIface 39 #[.slice A4 ll cap4, .slice A5 ll cap5] W)
          (first | exact ⟨HK0.out.drew.c0, HK0.out.drew.c1, HK0.out.drew.c2, HK0.out.drew⟩ | (go_split_ands; exact ⟨by assumption, by assumption, by assumption, by assumption⟩) | (go_split_ands; refine ⟨by assumption, by assumption, by assumption, Kept.drew (by assumption)⟩) | go_keep)
          (first | (go_at_call 20; go_split_ands; refine (kept_call (by assumption)).mono ?_; rintro e w6 ⟨rfl, c0, c1, c2, hk5⟩) | (go_at_call 39; go_split_ands; refine (kept_same (by assumption)).mono ?_; rintro e w6 ⟨rfl, c0, c1, c2, hk5⟩))
        all_goals (try go_wp2)
        all_goals go_ret
        all_goals exact ⟨rfl, HB5.out.trans (((Below.refl _ _).alloc HB5.out.size _).trans (hk5.below.mono (Nat.le_succ_of_le HB5.out.size)))⟩
      · have HK3 := Lib.hid hkk
        have HL3 := Lib.hid hlt
        have HW3 := Lib.hid hw
        clear hkk hlt hw
        go_wp2_with fail
        refine href.mono ?_
        rintro e w5 ⟨h5, hb5⟩
        clear href
        rcases h5 with ⟨hall, _⟩ | ⟨k4, hk4, hlt4, hw4, rfl⟩
        case inl => exact absurd HW3.out (by rw [hall k hk]; decide)
        obtain rfl : k4 = k := by
          rcases Nat.lt_trichotomy k4 k with h | h | h
          · exact absurd hw4 (by rw [HL3.out k4 h]; decide)
          · exact h
          · exact absurd HW3.out (by rw [hlt4 k h]; decide)
        have HB5 := Lib.hid (HB4.out.trans (hb5.mono HB4.out.size))
        have HK4 := Lib.hid (HK3.out.below hb5 HK3.out.lt)
        have hk0 : Kept w5 (F k4).L (F k4).C 10 (.iface 107 (.pointer (some ⟨b, 0, none⟩))) 39 #[.slice none 0 0, .slice none 0 0] (w5.alloc (.cells #[.int .i64 (F k4).L, .int .i64 (F k4).C, .int .i64 10] 25)) :=
          ⟨Below.refl _ _, fun W' hb => fault_err b _ _ _ W' (((HG.out.below HB5.out HG.out.pos).alloc _).below hb (by simp)) (by omega) (by omega) ((HK4.out.alloc _).below hb (HK4.out.alloc _).lt), fun W' _ => same_syms (fun _ => default) none none 0 0 0 (by omega) (fun j hj => absurd hj (by omega)) W' (fun j hj => absurd hj (by omega)) (fun j hj => absurd hj (by omega))⟩
        clear hlt4 hw4 hb5
        go_wp2_with fail
        have HK0 := Lib.hid hk0
        clear hk0
        go_region_held3 (fun W => W.cell? ⟨w5.heap.size, 0, none⟩ = some (.int .i64 (F k4).L) ∧ W.cell? ⟨w5.heap.size, 1, none⟩ = some (.int .i64 (F k4).C) ∧ W.cell? ⟨w5.heap.size, 2, none⟩ = some (.int .i64 10) ∧ Kept w5 (F k4).L (F k4).C 10 (.iface 107 (.pointer (some ⟨b, 0, none⟩))) 39 #[.slice none 0 0, .slice none 0 0] W)
          (first | exact ⟨HK0.out.drew.c0, HK0.out.drew.c1, HK0.out.drew.c2, HK0.out.drew⟩ | (go_split_ands; exact ⟨by assumption, by assumption, by assumption, by assumption⟩) | (go_split_ands; refine ⟨by assumption, by assumption, by assumption, Kept.drew (by assumption)⟩) | go_keep)
          (first | (go_at_call 20; go_split_ands; refine (kept_call (by assumption)).mono ?_; rintro e w6 ⟨rfl, c0, c1, c2, hk5⟩) | (go_at_call 39; go_split_ands; refine (kept_same (by assumption)).mono ?_; rintro e w6 ⟨rfl, c0, c1, c2, hk5⟩))
        all_goals (try go_wp2)
        all_goals go_ret
        all_goals exact ⟨rfl, HB5.out.trans (((Below.refl _ _).alloc HB5.out.size _).trans (hk5.below.mono (Nat.le_succ_of_le HB5.out.size)))⟩
    · have hm2 : (100 : Int) < m := by omega
      go_wp2
      go_ret
      exact ⟨rfl, HB2.out⟩
end Go.Proofs.YtbhfblogjlpnlabDoor
