/-
  MacroParts, given that awake answers true: the walk. Conditions: the tokens' cells lie in the memory.
-/
import Derived.Test.YtbhfblogjlpnlabDoorMacParts
namespace Go.Proofs.YtbhfblogjlpnlabDoor
open Go.RowKit

theorem toks_of_own {w : World} {base n : Nat} {u : Value} {ps : List Tk6} (h : w.ownsRow base 56 6 u n (cellsOf ps)) (hn : n = ps.length) : Toks w u ps := by
  subst hn
  rcases h.2 with ⟨rfl, h0⟩ | ⟨g, cap, cur, rfl, hg, hh, hc, hm, _, _⟩
  · exact .inl ⟨none, 0, rfl, Nat.zero_le _, List.eq_nil_of_length_eq_zero h0⟩
  · refine .inr ⟨g, 0, cap, rfl, hc, hm, (Array.getElem?_eq_some_iff.1 hh).1, fun i t hi j u hj => ?_⟩
    have hadd : ∀ j, (⟨g, 0, none⟩ : Addr).add j = ⟨g, j, none⟩ := fun j => by unfold Addr.add; split <;> simp_all
    have hil : i < ps.length := (List.getElem?_eq_some_iff.1 hi).1
    have hj6 : j < 6 := (List.getElem?_eq_some_iff.1 hj).1
    have hseg : (cellsOf ((ps.drop i).take 1))[j]? = some u := by
      have : (ps.drop i).take 1 = [t] := by
        rw [List.drop_eq_getElem_cons hil]
        rw [List.getElem?_eq_getElem hil] at hi
        injection hi with hi
        rw [hi]
        rfl
      rw [this]
      show (t.cells ++ [])[j]? = some u
      rw [List.append_nil]
      exact hj
    have := h.cells (g := g) rfl (i * 6 + j) u (cellsOf_seg ps i 1 (by omega) j u hseg)
    rw [hadd] at this
    rwa [Nat.zero_add]

theorem sum_take (pss : List (List Tk6)) (k : Nat) (p : List Tk6) (h : pss[k]? = some p) : ((pss.take (k + 1)).map List.length).sum = ((pss.take k).map List.length).sum + p.length := by
  obtain ⟨hk, rfl⟩ := List.getElem?_eq_some_iff.1 h
  rw [List.take_succ_eq_append_getElem hk, List.map_append, List.sum_append, List.map_cons, List.map_nil, List.sum_cons, List.sum_nil, Nat.add_zero]

set_option maxRecDepth 100000 in
set_option maxHeartbeats 4000000 in
theorem mparts_walk (ts : List Tk6) (v : Value) (w : World) (hAW : Calls Tryd.prog 15 #[] w fun e w' => e = .returned (.bool true) ∧ Below w.heap.size w w') (hv : Toks w v ts) :
    Calls Tryd.prog 7 #[v] w fun e w' => e = .returned (.bool true) ∧ Below w.heap.size w w' := by
  obtain ⟨pss, hp⟩ := partsOf_all ts
  have hform := hv.form
  obtain ⟨A, c, rfl, hc, hcm, _⟩ := hform
  have HAW := Lib.hid hAW
  have HT := Lib.hid hv
  have HP := Lib.hid hp
  clear hAW hv hp
  by_cases hlong : 300 < ts.length
  · have hli : (300 : Int) < ts.length := by omega
    go_enter Tryd.func7, Tryd.ntmps7
    go_wp2_with fail
    refine HAW.out.mono ?_
    rintro e w1 ⟨rfl, hb1⟩
    go_wp2_with fail
    go_ret
    exact ⟨rfl, hb1⟩
  · have hli : ¬ (300 : Int) < ts.length := by omega
    have hsum : pss.length ≤ 301 ∧ ∀ k, ((pss.take k).map List.length).sum ≤ 300 := by
      rcases HP.out with ⟨_, rfl⟩ | ⟨_, hp⟩
      · exact ⟨by simp, fun k => by simp⟩
      · have := parts_sum Tk6.mk3 hp
        refine ⟨by omega, fun k => ?_⟩
        have h2 : ((pss.take k).map List.length).sum + ((pss.drop k).map List.length).sum = (pss.map List.length).sum := by
          rw [← List.sum_append, ← List.map_append, List.take_append_drop]
        have h3 := parts_ne Tk6.mk3 hp
        have h4 : 0 < pss.length := List.length_pos_iff.2 h3
        omega
    have HSUM := Lib.hid hsum.2
    have hpl := hsum.1
    clear hsum
    go_enter Tryd.func7, Tryd.ntmps7
    go_wp2_with fail
    refine HAW.out.mono ?_
    rintro e w1 ⟨rfl, hb1⟩
    have HB1 := Lib.hid hb1
    clear hb1
    go_wp2_with fail
    refine (parts_is ts _ pss w1 (by omega) (HT.out.below HB1.out) HP.out).mono ?_
    rintro e w2 ⟨⟨vL, us, rfl, hown, hrows⟩, hb2⟩
    have HB2 := Lib.hid (HB1.out.trans (hb2.mono HB1.out.size))
    obtain ⟨AL, cL, rfl⟩ := own_shape hown
    have HOWN := Lib.hid hown
    have HROWS := Lib.hid hrows
    clear hb2 hown hrows
    go_wp2_with fail
    go_loopw [4, 5] (fun n i wr => ∃ k : Nat, k ≤ pss.length ∧ i = .int .i64 k ∧ n = .int .i64 (((pss.take k).map List.length).sum : Nat) ∧ Hid (Below w2.heap.size w2 wr)) (fun _ i _ => pss.length - (intOf i).toNat)
    case atStart => exact ⟨0, Nat.zero_le _, rfl, rfl, Lib.hid (Below.refl _ _)⟩
    case round =>
      obtain ⟨k, hk, rfl, rfl, HX⟩ := hrel
      by_cases hkl : k < pss.length
      · have hki : (k : Int) < pss.length := by omega
        obtain ⟨p, hpk⟩ : ∃ p, pss[k]? = some p := ⟨_, List.getElem?_eq_getElem hkl⟩
        obtain ⟨u, hus, hu⟩ := HROWS.out.2 k p hpk
        obtain ⟨Au, cu, rfl⟩ := own_shape hu
        obtain ⟨gL, rfl, hrow⟩ : ∃ g, AL = some ⟨g, 0, none⟩ ∧ w2.cell? ⟨g, k, none⟩ = some (.slice Au p.length cu) := by
          have hO := HOWN.out
          rcases hO.2 with ⟨_, h0⟩ | ⟨g, cap, cur, hA, _⟩
          · omega
          · injection hA with hA
            subst hA
            have hadd : (⟨g, 0, none⟩ : Addr).add k = ⟨g, k, none⟩ := by unfold Addr.add; split <;> simp_all
            have := hO.cells (g := g) rfl k _ hus
            rw [hadd] at this
            exact ⟨g, rfl, this⟩
        have r0 := (HX.out.cell (p := ⟨gL, k, none⟩) (World.block_lt_of_cell? w2 _ hrow)).trans hrow
        have hkc : (k : Int) < cL := by
          rcases HOWN.out.2 with ⟨h, h0⟩ | ⟨g, cap, cur, hA, _, _, hnc, _⟩
          · omega
          · injection hA with _ _ hA
            omega
        have HTK := Lib.hid ((toks_of_own hu rfl).below HX.out)
        have hst := sum_take pss k p hpk
        have hs1 := HSUM.out (k + 1)
        have hself : PartsR Tk6.mk3 p [p] := by
          rcases HP.out with ⟨_, rfl⟩ | ⟨_, hp⟩
          · simp at hkl
          · exact parts_self Tk6.mk3 (parts_each Tk6.mk3 hp p (List.mem_of_getElem? hpk))
        have HSELF := Lib.hid hself
        have HST := Lib.hid hst
        have p1 : (p.length : Int) ≤ 300 := by omega
        have p2 : ((((pss.take k).map List.length).sum : Nat) : Int) ≤ 300 := by omega
        generalize ((pss.take k).map List.length).sum = S at *
        clear hst hs1 hself hu hus hrow
        obtain ⟨wo, rfl⟩ : ∃ wo : World, wo = wr := ⟨_, rfl⟩
        by_cases hp0 : 0 < p.length
        · have z0 : (0 : Int) < p.length := by omega
          have z1 : decide ((0 : Int) < p.length) = true := decide_eq_true z0
          go_wp2_with fail
          refine (parts_is p _ [p] wo (by omega) HTK.out (.inr ⟨hp0, HSELF.out⟩)).mono ?_
          rintro e w3 ⟨⟨v3, us3, rfl, hown3, _⟩, hb3⟩
          obtain ⟨A3, c3, rfl⟩ := own_shape hown3
          have HB3 := Lib.hid (HX.out.trans (hb3.mono HX.out.size))
          have h1 : [p].length = 1 := rfl
          rw [h1]
          clear hb3 hown3
          go_wp2_with fail
          go_roundw
          case rel => exact ⟨k + 1, by omega, by go_num, by rw [HST.out]; go_num, HB3⟩
          case measure => simp [intOf]; omega
        · have z0 : ¬ (0 : Int) < p.length := by omega
          have z1 : decide ((0 : Int) < p.length) = false := decide_eq_false z0
          go_wp2_with fail
          go_roundw
          case rel => exact ⟨k + 1, by omega, by go_num, by rw [HST.out]; go_num, HX⟩
          case measure => simp [intOf]; omega
      · obtain rfl : k = pss.length := by omega
        have hst : pss.take pss.length = pss := List.take_length
        rw [hst]
        rcases HP.out with ⟨rfl, rfl⟩ | ⟨h0, hp⟩
        · go_wp2_with fail
          go_ret
          exact ⟨rfl, HB2.out.trans (HX.out.mono HB2.out.size)⟩
        · have hs := parts_sum Tk6.mk3 hp
          have h4 : 0 < pss.length := List.length_pos_iff.2 (parts_ne Tk6.mk3 hp)
          generalize (pss.map List.length).sum = S at *
          have z1 : ((ts.length : Int) == 0) = false := beq_eq_false_iff_ne.2 (by omega)
          have z2 : ((S : Int) + pss.length - 1 == ts.length) = true := by rw [beq_iff_eq]; omega
          have z3 : decide ((1 : Int) ≤ pss.length) = true := decide_eq_true (by omega)
          have z4 : (1 : Int) ≤ pss.length := by omega
          have s0 : (S : Int) ≤ 1000 := by omega
          clear hs hp
          go_wp2_with fail
          go_ret
          exact ⟨rfl, HB2.out.trans (HX.out.mono HB2.out.size)⟩
end Go.Proofs.YtbhfblogjlpnlabDoor
