/-
  MacroHeads returns true: the walk. Conditions: the handle of the type error; the tokens lie in the memory.
-/
import Derived.Test.YtbhfblogjlpnlabDoorMacHeadsO
import Derived.Test.YtbhfblogjlpnlabDoorMacRHead
import Derived.Test.YtbhfblogjlpnlabDoorMacRAt
import Derived.Test.YtbhfblogjlpnlabDoorMacRPartsZ
import Derived.Test.YtbhfblogjlpnlabDoorMacTheirs
import Derived.Test.YtbhfblogjlpnlabDoorMacAwake
namespace Go.Proofs.YtbhfblogjlpnlabDoor
open Go.RowKit

theorem len_sum {α : Type} {pss : List (List α)} {p : List α} (h : p ∈ pss) : p.length ≤ (pss.map List.length).sum := by
  induction pss with
  | nil => cases h
  | cons a l ih =>
    rw [List.map_cons, List.sum_cons]
    rcases List.mem_cons.1 h with rfl | h
    · omega
    · have := ih h
      omega

set_option maxRecDepth 100000 in
set_option maxHeartbeats 8000000 in
theorem mheads_walk (ts : List Tk6) (vt : Value) (w : World) (hg : Handle w) (hv : Toks w vt ts) :
    Calls Tryd.prog 4 #[vt] w fun e w' => e = .returned (.bool true) ∧ Below w.heap.size w w' := by
  obtain ⟨At, ct, rfl, htc, _, -⟩ := hv.form
  obtain ⟨r, hr⟩ := hrun_all ts _ (some .name) headStart (headStart_fit ts) (Nat.le_refl _)
  have hend := hrun_end hr (headStart_fit ts) (fun p hp => by simp [headStart] at hp)
  obtain ⟨pss, hp⟩ := partsOf_all ts
  have HG := Lib.hid (fun W (hW : Below w.heap.size w W) => hg.below hW hg.pos)
  have HTK := Lib.hid (fun W (hW : Below w.heap.size w W) => hv.below hW)
  have HR := Lib.hid hr
  have HP := Lib.hid hp
  have HAW := Lib.hid (mawake_any w hg)
  have HEN := Lib.hid hend
  clear hg hv hr hp hend
  go_enter Tryd.func4, Tryd.ntmps4
  go_wp2_with fail
  refine HAW.out.mono ?_
  rintro e w1 ⟨rfl, hb1⟩
  have HB1 := Lib.hid hb1
  clear hb1 HAW
  by_cases hlong : 300 < ts.length
  · have hli : (300 : Int) < ts.length := by omega
    go_wp2_with fail
    go_ret
    exact ⟨rfl, HB1.out⟩
  · have hli : ¬ (300 : Int) < ts.length := by omega
    have hts : ts.length ≤ 300 := by omega
    have hpl : pss.length ≤ 301 ∧ ∀ p ∈ pss, p.length ≤ 301 := by
      rcases HP.out with ⟨_, rfl⟩ | ⟨_, hp⟩
      · exact ⟨by decide, fun p hp => by cases hp⟩
      · have h1 := parts_sum Tk6.mk3 hp
        refine ⟨by omega, fun p hpm => ?_⟩
        have h2 := len_sum hpm
        omega
    have hpb : (hPars r).length ≤ 301 ∧ ∀ p ∈ hPars r, p.dflt.length ≤ 300 := by
      cases r with
      | inl s =>
        obtain ⟨a, b⟩ := HEN.out.1 s rfl
        exact ⟨by show s.ps.length ≤ 301; omega, fun p hp => by have := b p hp; omega⟩
      | inr e => exact ⟨by simp [hPars], fun p hp => by simp [hPars] at hp⟩
    have HPL := Lib.hid hpl
    have HPB := Lib.hid hpb
    have HHD := Lib.hid (head_is ts _ r w1 (HG.out w1 HB1.out) (by omega) (HTK.out w1 HB1.out) HR.out)
    clear hlong hpl hpb
    go_wp2_with fail
    refine HHD.out.mono ?_
    intro e w2 h2
    obtain ⟨⟨Ap, cp, ev, rfl, hpp, hfa⟩, hb2⟩ := head_out (HG.out w1 HB1.out) HEN.out.2 h2
    have HB2 := Lib.hid (HB1.out.trans (hb2.mono HB1.out.size))
    have HPP := Lib.hid hpp
    have HFA := Lib.hid hfa
    have HRH := Lib.hid (fun W (hW : Below w2.heap.size w2 W) => rhead_is ts _ r W (by omega) (HTK.out W (HB2.out.trans (hW.mono HB2.out.size))) HR.out)
    have hM := Blk.new w2 41 #[.string (hName r), .slice Ap (hPars r).length cp, .slice none 0 0]
    have HM := Lib.hid hM
    clear h2 hpp hfa hb2 hM HHD
    go_wp2_with fail
    refine (HRH.out _ ((Below.refl _ _).alloc (Nat.le_refl _) _)).mono ?_
    intro e w3 h3
    obtain ⟨⟨Aq, cq, rfl, hpq⟩, hb3⟩ := rhead_out h3
    have HPQ := Lib.hid hpq
    have hM3 := HM.out.below hb3 HM.out.lt
    have HB3 := Lib.hid (((Below.refl _ _).alloc (Nat.le_refl _) _).trans (hb3.mono (by simp)) : Below w2.heap.size w2 w3)
    have HM3 := Lib.hid hM3
    clear h3 hpq hb3 hM3 HRH
    obtain ⟨w6, hw6⟩ : ∃ w6, (w3.alloc (.cells #[.string (hName r), .slice Aq (hPars r).length cq, .slice none 0 0] 46)).alloc (.cells #[.int .i64 (hL ts r), .int .i64 (hC ts r), .int .i64 (hCode r)] 25) = w6 := ⟨_, rfl⟩
    have HW6 := Lib.hid hw6
    have hb36 : Below w3.heap.size w3 w6 := by rw [← hw6]; exact ((Below.refl _ _).alloc (Nat.le_refl _) _).alloc (by simp) _
    have hK : Blk w6 w3.heap.size 46 #[.string (hName r), .slice Aq (hPars r).length cq, .slice none 0 0] := by rw [← hw6]; exact (Blk.new _ _ _).alloc _
    have hF : Blk w6 (w3.heap.size + 1) 25 #[.int .i64 (hL ts r), .int .i64 (hC ts r), .int .i64 (hCode r)] := by rw [← hw6]; have := Blk.new (w3.alloc (.cells #[.string (hName r), .slice Aq (hPars r).length cq, .slice none 0 0] 46)) 25 #[.int .i64 (hL ts r), .int .i64 (hC ts r), .int .i64 (hCode r)]; simpa using this
    have hM6 := HM3.out.below hb36 HM3.out.lt
    have hb26 : Below w2.heap.size w2 w6 := HB3.out.trans (hb36.mono HB3.out.size)
    have HUP := Lib.hid (fun W (hW : Below w6.heap.size w6 W) => (HB2.out.trans (hb26.mono HB2.out.size)).trans (hW.mono (Nat.le_trans HB2.out.size hb26.size)))
    have HMC : Hid (∀ W, Below w6.heap.size w6 W → W.cell? ⟨w2.heap.size, 0, none⟩ = some (.string (hName r)) ∧ W.cell? ⟨w2.heap.size, 1, none⟩ = some (.slice Ap (hPars r).length cp) ∧ W.cell? ⟨w2.heap.size, 2, none⟩ = some (.slice none 0 0) ∧ W.cell? ⟨w3.heap.size, 0, none⟩ = some (.string (hName r)) ∧ W.cell? ⟨w3.heap.size, 1, none⟩ = some (.slice Aq (hPars r).length cq) ∧ W.cell? ⟨w3.heap.size, 2, none⟩ = some (.slice none 0 0) ∧ W.cell? ⟨w3.heap.size + 1, 0, none⟩ = some (.int .i64 (hL ts r)) ∧ W.cell? ⟨w3.heap.size + 1, 1, none⟩ = some (.int .i64 (hC ts r)) ∧ W.cell? ⟨w3.heap.size + 1, 2, none⟩ = some (.int .i64 (hCode r))) := Lib.hid (fun W hW => ⟨(hM6.below hW hM6.lt).cell 0, (hM6.below hW hM6.lt).cell 1, (hM6.below hW hM6.lt).cell 2, (hK.below hW hK.lt).cell 0, (hK.below hW hK.lt).cell 1, (hK.below hW hK.lt).cell 2, (hF.below hW hF.lt).cell 0, (hF.below hW hF.lt).cell 1, (hF.below hW hF.lt).cell 2⟩)
    have hpp6 := HPP.out.below hb26
    have hpq6 := HPQ.out.below hb36
    have HTH : Hid (∀ W, Below w6.heap.size w6 W → Calls Tryd.prog 19 #[.agg #[.string (hName r), .slice Ap (hPars r).length cp, .slice none 0 0]] W fun e w' => ∃ A c, e = .returned (.agg #[.string (hName r), .slice A (hPars r).length c, .slice none 0 0]) ∧ Pars w' (.slice A (hPars r).length c) (hPars r) ∧ Below w6.heap.size w6 w') := Lib.hid (fun W hW => (theirs_is (hPars r) (hName r) _ _ W (hpp6.below hW) (by have := HPB.out.1; omega) ⟨_, _, _, rfl⟩).mono (by
      rintro e w' ⟨⟨vp', he, hp'⟩, hb⟩
      obtain ⟨A, c, rfl, -⟩ := hp'.form
      exact ⟨A, c, he, hp', hW.trans (hb.mono hW.size)⟩))
    have HSA : Hid (∀ W A c, Below w6.heap.size w6 W → Pars W (.slice A (hPars r).length c) (hPars r) → Calls Tryd.prog 18 #[.agg #[.string (hName r), .slice A (hPars r).length c, .slice none 0 0], .agg #[.string (hName r), .slice Aq (hPars r).length cq, .slice none 0 0]] W fun e w' => e = .returned (.bool true) ∧ Below w6.heap.size w6 w') := Lib.hid (fun W A c hW hp => (msame_is (hPars r) (hName r) _ _ W (by have := HPB.out.1; omega) (fun p hp => by have := HPB.out.2 p hp; omega) hp (hpq6.below hW)).mono (by
      rintro e w' ⟨he, hb⟩
      exact ⟨he, hW.trans (hb.mono hW.size)⟩))
    have HFC : Hid (∀ W, Below w6.heap.size w6 W → Calls Tryd.prog 20 #[ev] W fun e w' => e = .returned (.agg #[.int .i64 (hL ts r), .int .i64 (hC ts r), .int .i64 (hCode r)]) ∧ Below w6.heap.size w6 w') := Lib.hid (fun W hW => (HFA.out W (hb26.trans (hW.mono hb26.size))).mono (by
      rintro e w' ⟨he, hb⟩
      exact ⟨he, hW.trans (hb.mono hW.size)⟩))
    have HPA : Hid (∀ W, Below w6.heap.size w6 W → Calls Tryd.prog 22 #[.slice At ts.length ct] W fun e w' => ∃ A c, e = .returned (.slice A pss.length c) ∧ TokRows w' (.slice A pss.length c) pss ∧ Below W.heap.size W w' ∧ Below w6.heap.size w6 w') := Lib.hid (fun W hW => (parts_is ts _ pss W (by omega) (HTK.out W (HUP.out W hW)) HP.out).mono (by
      rintro e w' ⟨⟨v, us, rfl, ho, hrw⟩, hb⟩
      have htr := tokRows_of_own ho hrw
      obtain ⟨A, c, rfl⟩ := own_shape ho
      exact ⟨A, c, rfl, htr, hb, hW.trans (hb.mono hW.size)⟩))
    have HPR : Hid (∀ W, Below w6.heap.size w6 W → Calls Tryd.prog 23 #[.slice At ts.length ct] W fun e w' => ∃ A c, e = .returned (.slice A pss.length c) ∧ TokRows w' (.slice A pss.length c) pss ∧ Below W.heap.size W w' ∧ Below w6.heap.size w6 w') := Lib.hid (fun W hW => (rparts_is ts _ pss W (by omega) (HTK.out W (HUP.out W hW)) HP.out).mono (by
      rintro e w' ⟨⟨v, us, rfl, ho, hrw⟩, hb⟩
      have htr := tokRows_of_own ho hrw
      obtain ⟨A, c, rfl⟩ := own_shape ho
      exact ⟨A, c, rfl, htr, hb, hW.trans (hb.mono hW.size)⟩))
    have HRS : Hid (∀ W v1 v2, Below w6.heap.size w6 W → TokRows W v1 pss → TokRows W v2 pss → Calls Tryd.prog 21 #[v1, v2] W fun e w' => e = .returned (.bool true) ∧ Below w6.heap.size w6 w') := Lib.hid (fun W v1 v2 hW h1 h2 => (rows_same pss v1 v2 W (by have := HPL.out.1; omega) (fun p hp => by have := HPL.out.2 p hp; omega) h1 h2).mono (by
      rintro e w' ⟨he, hb⟩
      exact ⟨he, hW.trans (hb.mono hW.size)⟩))
    clear hw6 hb36 hK hF hM6 hb26 hpp6 hpq6
    go_wp2_with fail
    rw [HW6.out]
    obtain ⟨c0, c1, c2, c3, c4, c5, c6, c7, c8⟩ := HMC.out w6 (Below.refl _ _)
    have hef := fun W => eql_faults (hL ts r) (hC ts r) (hCode r) W
    go_region_held3 (fun W => W.cell? ⟨w2.heap.size, 0, none⟩ = some (.string (hName r)) ∧ W.cell? ⟨w2.heap.size, 1, none⟩ = some (.slice Ap (hPars r).length cp) ∧ W.cell? ⟨w2.heap.size, 2, none⟩ = some (.slice none 0 0) ∧ W.cell? ⟨w3.heap.size, 0, none⟩ = some (.string (hName r)) ∧ W.cell? ⟨w3.heap.size, 1, none⟩ = some (.slice Aq (hPars r).length cq) ∧ W.cell? ⟨w3.heap.size, 2, none⟩ = some (.slice none 0 0) ∧ W.cell? ⟨w3.heap.size + 1, 0, none⟩ = some (.int .i64 (hL ts r)) ∧ W.cell? ⟨w3.heap.size + 1, 1, none⟩ = some (.int .i64 (hC ts r)) ∧ W.cell? ⟨w3.heap.size + 1, 2, none⟩ = some (.int .i64 (hCode r)) ∧ Below w6.heap.size w6 W)
      (first | exact ⟨c0, c1, c2, c3, c4, c5, c6, c7, c8, Below.refl _ _⟩ | exact ⟨c0, c1, c2, c3, c4, c5, c6, c7, c8, (Below.refl _ _).drew⟩ | (go_split_ands; exact ⟨by assumption, by assumption, by assumption, by assumption, by assumption, by assumption, by assumption, by assumption, by assumption, by assumption⟩) | go_keep)
      (first
        | (go_at_call 19; go_split_ands; refine (HTH.out _ (by assumption)).mono ?_; rintro e w7 ⟨A7, c7', rfl, hp7, hb7⟩; obtain ⟨x0, x1, x2, x3, x4, x5, x6, x7, x8⟩ := HMC.out w7 hb7)
        | (go_at_call 18; go_split_ands; refine (HSA.out _ _ _ (by assumption) (by assumption)).mono ?_; rintro e w8 ⟨rfl, hb8⟩; obtain ⟨x0, x1, x2, x3, x4, x5, x6, x7, x8⟩ := HMC.out w8 hb8)
        | (go_at_call 20; go_split_ands; refine (HFC.out _ (by assumption)).mono ?_; rintro e w9 ⟨rfl, hb9⟩; obtain ⟨x0, x1, x2, x3, x4, x5, x6, x7, x8⟩ := HMC.out w9 hb9)
        | (go_at_call 22; go_split_ands; refine (HPA.out _ (by assumption)).mono ?_; rintro e w10 ⟨A10, c10, rfl, ht10, hs10, hb10⟩; obtain ⟨x0, x1, x2, x3, x4, x5, x6, x7, x8⟩ := HMC.out w10 hb10)
        | (go_at_call 23; go_split_ands; refine (HPR.out _ (by assumption)).mono ?_; rintro e w11 ⟨A11, c11, rfl, ht11, hs11, hb11⟩; obtain ⟨x0, x1, x2, x3, x4, x5, x6, x7, x8⟩ := HMC.out w11 hb11)
        | (go_at_call 21; go_split_ands; refine (HRS.out _ _ _ (by assumption) (by first | assumption | exact TokRows.below (by assumption) (by assumption)) (by first | assumption | exact TokRows.below (by assumption) (by assumption))).mono ?_; rintro e w12 ⟨rfl, hb12⟩; obtain ⟨x0, x1, x2, x3, x4, x5, x6, x7, x8⟩ := HMC.out w12 hb12))
    all_goals (try go_wp2_with fail)
    all_goals go_ret
    all_goals exact ⟨rfl, HUP.out _ (by assumption)⟩
end Go.Proofs.YtbhfblogjlpnlabDoor
