/-
  The macro layer's own check answers true. Condition: the handle of the type error.
-/
import Derived.Test.YtbhfblogjlpnlabDoorMacBind
import Derived.Test.YtbhfblogjlpnlabDoorMacSrc
import Derived.Test.YtbhfblogjlpnlabDoorKept
import Derived.Lib.SlBytesConst
namespace Go.Proofs.YtbhfblogjlpnlabDoor
open Go.RowKit

theorem lit_cells (w : World) (s : ByteArray) (cs : Array Value) (fz : Nat × Nat) (h : cs.toList = s.data.toList.map (fun c => Value.int .u8 (c.toNat : Int))) : ∀ j (hj : j < s.size), (w.alloc (.cells cs 5 fz)).cell? ⟨w.heap.size, 0 + j, none⟩ = some (.int .u8 ((s[j]'hj).toNat : Int)) := by
  intro j hj
  rw [Nat.zero_add, cell_of_row _ w.heap.size j _ 5 fz (heap_alloc_new w _), ← Array.getElem?_toList, h, List.getElem?_map]
  have h2 : j < s.data.toList.length := by simpa using hj
  rw [List.getElem?_eq_getElem h2]
  rfl

theorem bindM : ∀ vals, BindOk parsM [tkM1.take 5, []] vals → vals = [tkM1.take 5, (tkM0.drop 6).take 3] := by
  rintro vals ⟨_, h2, h3⟩
  match vals, h2 with
  | [a, b], _ =>
    have ha := h3 0 a rfl
    have hb := h3 1 b rfl
    have ea : valAt parsM [tkM1.take 5, []] 0 = some (tkM1.take 5) := rfl
    have eb : valAt parsM [tkM1.take 5, []] 1 = some ((tkM0.drop 6).take 3) := rfl
    rw [ea] at ha
    rw [eb] at hb
    injection ha with ha
    injection hb with hb
    rw [← ha, ← hb]
theorem bindM_good : ¬ BindBad parsM [tkM1.take 5, []] := by
  rintro (h | ⟨j, hj, hv⟩)
  · exact absurd h (by decide)
  · have hj2 : j < 2 := hj
    rcases (show j = 0 ∨ j = 1 by omega) with rfl | rfl
    · cases hv
    · cases hv

set_option maxRecDepth 100000 in
set_option maxHeartbeats 4000000 in
theorem mawake_any (w : World) (hg : Handle w) : Calls Tryd.prog 15 #[] w fun e w' => e = .returned (.bool true) ∧ Below w.heap.size w w' := by
  have hconst := fun (w : World) (C : Array Value) (n c : Nat) => Lib.run_convert_bytes_const (P := Tryd.prog) w 28 5 C n c Tryd.underlying28 Tryd.underlying5
  have HG := Lib.hid hg
  have HL := Lib.hid (lines_any srcM w.heap.size 0 34 [lineM0, lineM1, lineM2] none (w.alloc (.cells (#[.int .u8 46, .int .u8 109, .int .u8 97, .int .u8 99, .int .u8 114, .int .u8 111, .int .u8 32, .int .u8 109, .int .u8 32, .int .u8 97, .int .u8 44, .int .u8 32, .int .u8 98, .int .u8 61, .int .u8 49, .int .u8 43, .int .u8 50, .int .u8 10, .int .u8 40, .int .u8 120, .int .u8 44, .int .u8 121, .int .u8 41, .int .u8 44, .int .u8 10, .int .u8 46, .int .u8 109, .int .u8 97, .int .u8 99, .int .u8 114, .int .u8 111, .int .u8 32, .int .u8 46, .int .u8 109] : Array Value) 5 (34, 35))) (by decide) (by decide) (by decide) readM (by simp) (lit_cells w srcM _ _ rfl))
  have HBA : Hid (∀ o, Below w.heap.size w (w.alloc o)) := Lib.hid (fun o => (Below.refl _ _).alloc (Nat.le_refl _) o)
  clear hg
  go_enter Tryd.func15, Tryd.ntmps15
  go_wp2_with fail
  refine HL.out.mono ?_
  rintro e w1 ⟨⟨v, us, rfl, hown, hlines⟩, hb1⟩
  have hl3 : ([lineM0, lineM1, lineM2] : List (List Piece)).length = 3 := rfl
  obtain ⟨g, cp, rfl, hcp, hgl, hrow⟩ : ∃ g cp, v = .slice (some ⟨g, 0, none⟩) 3 cp ∧ 3 ≤ cp ∧ g < w1.heap.size ∧ ∀ (i : Nat) (u : Value), us[i]? = some u → w1.cell? ⟨g, i, none⟩ = some u := by
    rcases hown.2 with ⟨_, h0⟩ | ⟨g, cap, cur, hv, hg, hh, hc, hm, _⟩
    · rw [hl3] at h0
      cases h0
    · subst hv
      refine ⟨g, cap, rfl, hc, (Array.getElem?_eq_some_iff.1 hh).1, fun i u hu => ?_⟩
      have := hown.cells (g := g) rfl i u hu
      rwa [addr0] at this
  obtain ⟨u0, hu0, ho0⟩ := hlines.2 0 lineM0 rfl
  obtain ⟨u1, hu1, ho1⟩ := hlines.2 1 lineM1 rfl
  obtain ⟨u2, hu2, ho2⟩ := hlines.2 2 lineM2 rfl
  have ht0 : Toks w1 u0 tkM0 := toks_line hlines (i := 0) rfl hu0
  have ht1 : Toks w1 u1 tkM1 := toks_line hlines (i := 1) rfl hu1
  have ht2 : Toks w1 u2 tkM2 := toks_line hlines (i := 2) rfl hu2
  have HB1 : Hid (Below w.heap.size w w1) := Lib.hid ((HBA.out _).trans (hb1.mono (by simp)))
  obtain ⟨A0, d0, rfl, -⟩ := ht0.form
  obtain ⟨A1, d1, rfl, -⟩ := ht1.form
  obtain ⟨A2, d2, rfl, -⟩ := ht2.form
  have HROW := Lib.hid (fun W (hW : Below w1.heap.size w1 W) => (⟨(hW.cell (p := ⟨g, 0, none⟩) hgl).trans (hrow 0 _ hu0), (hW.cell (p := ⟨g, 1, none⟩) hgl).trans (hrow 1 _ hu1), (hW.cell (p := ⟨g, 2, none⟩) hgl).trans (hrow 2 _ hu2)⟩ : W.cell? ⟨g, 0, none⟩ = some (.slice A0 tkM0.length d0) ∧ W.cell? ⟨g, 1, none⟩ = some (.slice A1 tkM1.length d1) ∧ W.cell? ⟨g, 2, none⟩ = some (.slice A2 tkM2.length d2)))
  have HT0 := Lib.hid ht0
  have HT1 := Lib.hid ht1
  have HT2 := Lib.hid ht2
  have hcp2 : (3 : Int) ≤ cp := by omega
  clear hown hlines hb1 hrow hu0 hu1 hu2 ho0 ho1 ho2 ht0 ht1 ht2 HL HBA
  have hup : ∀ o, Below w1.heap.size w1 (w1.alloc o) := fun o => (Below.refl _ _).alloc (Nat.le_refl _) o
  have r0 : ∀ o', (w1.alloc o').cell? ⟨g, 0, none⟩ = some (.slice A0 tkM0.length d0) := fun o' => (HROW.out _ (hup o')).1
  have HH0 := Lib.hid (fun o' => head_is tkM0 _ _ (w1.alloc o') (HG.out.below (HB1.out.alloc HB1.out.size o') HG.out.pos) (by decide) (HT0.out.below (hup o')) headM0)
  have HUP := Lib.hid hup
  clear hup
  go_wp2_with fail
  refine (HH0.out _).mono ?_
  rintro e w2 ⟨vp, rfl, hpars, hb2⟩
  have HB2 : Hid (Below w1.heap.size w1 w2) := Lib.hid ((HUP.out _).trans (hb2.mono (by simp)))
  obtain ⟨Avp, cvp, rfl, hpc, hpm, hpcell⟩ := hpars.form
  have HPARS := Lib.hid hpars
  have HPC := Lib.hid (hpcell 1 _ rfl)
  have hpl : parsM.length = 2 := rfl
  rw [hpl] at HPARS hpc ⊢
  have hpc2 : (2 : Int) ≤ cvp := by omega
  have hup2 : ∀ o, Below w1.heap.size w1 (w2.alloc o) := fun o => HB2.out.alloc HB2.out.size o
  have r2 : ∀ o', (w2.alloc o').cell? ⟨g, 2, none⟩ = some (.slice A2 tkM2.length d2) := fun o' => (HROW.out _ (hup2 o')).2.2
  have HH2 := Lib.hid (fun o' => head_is tkM2 _ _ (w2.alloc o') (HG.out.below (HB1.out.trans ((hup2 o').mono HB1.out.size)) HG.out.pos) (by decide) (HT2.out.below (hup2 o')) headM2)
  have HUP2 := Lib.hid hup2
  clear hpars hb2 hpcell hup2 r0 HH0
  go_wp2_with fail
  refine (HH2.out _).mono ?_
  rintro e w3 ⟨b, rfl, hbs, hbk, hb3⟩
  have HMB : Hid (∀ o', Blk (w3.alloc o') w2.heap.size 41 #[.string (ba [109]), .slice Avp 2 cvp, .slice none 0 0]) := Lib.hid (fun o' => ((Blk.new _ _ _).below hb3 (by simp)).alloc o')
  have HB3 : Hid (Below w1.heap.size w1 w3) := Lib.hid ((HUP2.out _).trans (hb3.mono (HUP2.out _).size))
  have HB23 : Hid (Below w2.heap.size w2 w3) := Lib.hid (((Below.refl _ _).alloc (Nat.le_refl _) _).trans (hb3.mono (by simp)))
  have HFB := Lib.hid hbk
  have HUP3 : Hid (∀ o', Below w1.heap.size w1 (w3.alloc o')) := Lib.hid (fun o' => HB3.out.alloc HB3.out.size o')
  have HUP23 : Hid (∀ o', Below w2.heap.size w2 (w3.alloc o')) := Lib.hid (fun o' => HB23.out.alloc HB23.out.size o')
  have HUPF : Hid (∀ o', Below w3.heap.size w3 (w3.alloc o')) := Lib.hid (fun o' => (Below.refl _ _).alloc (Nat.le_refl _) o')
  clear hbs hbk hb3 r2 HH2 HUP2
  go_wp2_with fail
  obtain ⟨wA, hwA⟩ : ∃ wA, w3.alloc (.cells #[.string ⟨#[]⟩, .slice none 0 0, .slice none 0 0] 41) = wA := ⟨_, rfl⟩
  have kM := HMB.out (.cells #[.string ⟨#[]⟩, .slice none 0 0, .slice none 0 0] 41)
  have kU := HUP3.out (.cells #[.string ⟨#[]⟩, .slice none 0 0, .slice none 0 0] 41)
  have kU2 := HUP23.out (.cells #[.string ⟨#[]⟩, .slice none 0 0, .slice none 0 0] 41)
  have kF := HFB.out.below (HUPF.out (.cells #[.string ⟨#[]⟩, .slice none 0 0, .slice none 0 0] 41)) HFB.out.lt
  rw [hwA] at kM kU kU2 kF ⊢
  clear hwA HMB HUP3 HUP23 HUPF HFB
  have c0 : wA.cell? ⟨w2.heap.size, 0, none⟩ = some (.string (ba [109])) := kM.cell 0
  have c1 : wA.cell? ⟨w2.heap.size, 1, none⟩ = some (.slice Avp 2 cvp) := kM.cell 1
  have c2 : wA.cell? ⟨w2.heap.size, 2, none⟩ = some (.slice none 0 0) := kM.cell 2
  have c3 : wA.cell? ⟨g, 1, none⟩ = some (.slice A1 tkM1.length d1) := (HROW.out _ kU).2.1
  have HUPA : Hid (∀ W, Below wA.heap.size wA W → W.cell? ⟨w2.heap.size, 0, none⟩ = some (.string (ba [109])) ∧ W.cell? ⟨w2.heap.size, 1, none⟩ = some (.slice Avp 2 cvp) ∧ W.cell? ⟨w2.heap.size, 2, none⟩ = some (.slice none 0 0) ∧ W.cell? ⟨g, 1, none⟩ = some (.slice A1 tkM1.length d1)) := Lib.hid (fun W hW => ⟨(kM.below hW kM.lt).cell 0, (kM.below hW kM.lt).cell 1, (kM.below hW kM.lt).cell 2, (HROW.out _ (kU.trans (hW.mono kU.size))).2.1⟩)
  have HPA : Hid (∀ W, Below wA.heap.size wA W → Calls Tryd.prog 22 #[.slice A1 tkM1.length d1] W fun e w' => ∃ AP cP, e = .returned (.slice AP 2 cP) ∧ TokRows w' (.slice AP 2 cP) [tkM1.take 5, []] ∧ Below wA.heap.size wA w') := Lib.hid (fun W hW => (parts_is tkM1 _ [tkM1.take 5, []] W (by decide) (HT1.out.below (kU.trans (hW.mono kU.size))) (.inr ⟨by decide, partsM1⟩)).mono (by
    rintro e w' ⟨⟨v, us, he, hv, hr⟩, hb⟩
    have htr := tokRows_of_own hv hr
    obtain ⟨AP, cP, rfl⟩ := own_shape hv
    exact ⟨AP, cP, he, htr, hW.trans (hb.mono hW.size)⟩))
  have HBI : Hid (∀ W AP cP, Below wA.heap.size wA W → TokRows W (.slice AP 2 cP) [tkM1.take 5, []] → Calls Tryd.prog 26 #[.agg #[.string (ba [109]), .slice Avp 2 cvp, .slice none 0 0], .agg #[.int .i64 0, .int .i64 0, .int .i64 0, .string ⟨#[]⟩, .int .u32 0, .int .i64 0], .slice AP 2 cP] W fun e w' => ∃ Av cv, e = .returned (.tuple #[.slice Av 2 cv, .nilIface]) ∧ TokRows w' (.slice Av 2 cv) [tkM1.take 5, (tkM0.drop 6).take 3] ∧ Below wA.heap.size wA w') := Lib.hid (fun W AP cP hW hTR => (bind_is parsM [tkM1.take 5, []] (ba [109]) (.slice Avp 2 cvp) (.slice none 0 0) (.slice AP 2 cP) ⟨0, 0, 0, ⟨#[]⟩, 0, 0⟩ W (HG.out.below (HB1.out.trans ((kU.trans (hW.mono kU.size)).mono HB1.out.size)) HG.out.pos) (HPARS.out.below (kU2.trans (hW.mono kU2.size))) hTR (by decide) (by decide) (by decide) (.inl rfl)).mono (by
    rintro e w' ⟨⟨v, vals, us, he, hok, hv, hr⟩ | ⟨_, _, hbad, _⟩, hb⟩
    · have htr := tokRows_of_own hv hr
      obtain ⟨Av, cv, rfl⟩ := own_shape hv
      have := bindM vals hok
      subst this
      exact ⟨Av, cv, he, htr, hW.trans (hb.mono hW.size)⟩
    · exact absurd hbad bindM_good))
  have KF := Lib.hid (fun W (hW : Below wA.heap.size wA W) => kF.below hW kF.lt)
  have KG := Lib.hid (fun W (hW : Below wA.heap.size wA W) => HG.out.below (HB1.out.trans ((kU.trans (hW.mono kU.size)).mono HB1.out.size)) HG.out.pos)
  have KP := Lib.hid (fun W (hW : Below wA.heap.size wA W) => kU2.trans (hW.mono kU2.size))
  have KW := Lib.hid (fun W (hW : Below wA.heap.size wA W) => HB1.out.trans ((kU.trans (hW.mono kU.size)).mono HB1.out.size))
  clear kM kU kU2 kF
  go_region_held3 (fun W => W.cell? ⟨w2.heap.size, 0, none⟩ = some (.string (ba [109])) ∧ W.cell? ⟨w2.heap.size, 1, none⟩ = some (.slice Avp 2 cvp) ∧ W.cell? ⟨w2.heap.size, 2, none⟩ = some (.slice none 0 0) ∧ W.cell? ⟨g, 1, none⟩ = some (.slice A1 tkM1.length d1) ∧ Below wA.heap.size wA W)
    (first | exact ⟨c0, c1, c2, c3, Below.refl _ _⟩ | exact ⟨c0, c1, c2, c3, (Below.refl _ _).drew⟩ | (go_split_ands; exact ⟨by assumption, by assumption, by assumption, by assumption, by assumption⟩) | go_keep)
    (first | (go_at_call 22; go_split_ands; refine (HPA.out _ (by assumption)).mono ?_; rintro e w4 ⟨AP, cP, rfl, hTR, hb4⟩; obtain ⟨x0, x1, x2, x3⟩ := HUPA.out w4 hb4) | (go_at_call 26; go_split_ands; refine (HBI.out _ _ _ (by assumption) (by assumption)).mono ?_; rintro e w5 ⟨Av, cv, rfl, hV, hb5⟩; obtain ⟨y0, y1, y2, y3⟩ := HUPA.out w5 hb5))
  obtain ⟨Av', cv', hve, hvc, _, hvcell⟩ := hV.form
  injection hve with hve1 _ hve3
  subst hve1 hve3
  have hvc2 : (2 : Int) ≤ cv := by have : 2 ≤ cv := hvc; omega
  obtain ⟨bv, ov, f0, rfl, hf0, hv0⟩ := hvcell 0 _ rfl
  obtain ⟨bv', ov', f1, hve4, hf1, hv1⟩ := hvcell 1 _ rfl
  injection hve4 with hve4
  injection hve4 with hve4 hve5 _
  subst hve4 hve5
  obtain ⟨F0, e0, rfl, -⟩ := hf0.form
  obtain ⟨F1, e1, rfl, -⟩ := hf1.form
  have HV0 : Hid (∀ W, Below w5.heap.size w5 W → W.cell? ⟨bv, ov, none⟩ = some (.slice F0 5 e0)) := Lib.hid hv0
  have HV1 : Hid (∀ W, Below w5.heap.size w5 W → W.cell? ⟨bv, ov + 1, none⟩ = some (.slice F1 3 e1)) := Lib.hid hv1
  obtain ⟨bp, op, dp, rfl, hdp, hcp1⟩ := HPC.out
  obtain ⟨Dp, cdp, rfl, -⟩ := hdp.form
  obtain ⟨-, p1, p2⟩ := hcp1 w5 (KP.out w5 hb5)
  have p1a : w5.cell? ⟨bp, op + 3 + 1, none⟩ = some (.bool true) := p1
  have p2a : w5.cell? ⟨bp, op + 3 + 2, none⟩ = some (.slice Dp 3 cdp) := p2
  have p1b : w5.cell? ⟨bp, op + 4, none⟩ = some (.bool true) := p1
  have p2b : w5.cell? ⟨bp, op + 5, none⟩ = some (.slice Dp 3 cdp) := p2
  have hft : Blk w5 b 113 #[.int .i64 3, .int .i64 8, .iface 111 (.int .i64 8)] := KF.out w5 hb5
  have HFT := Lib.hid (fault_err b 3 8 8 w5 (KG.out w5 hb5) (by decide) (by decide) hft)
  have HBW := Lib.hid (KW.out w5 hb5)
  have hef := fun W => eql_faults 3 8 8 W
  clear hV hvcell hv0 hv1 hf0 hf1 hcp1 hdp p1 p2 hft HPC HBI HPA HUPA KF KG KP KW hconst c0 c1 c2 c3
  go_wp2_with fail
  refine HFT.out.mono ?_
  rintro e w6 ⟨rfl, hb6⟩
  have g0 := HV0.out w6 hb6
  have g1 := HV1.out w6 hb6
  have HB6 := Lib.hid (HBW.out.trans (hb6.mono HBW.out.size))
  clear hb6
  go_wp2_with fail
  go_ret
  exact ⟨rfl, HB6.out⟩
end Go.Proofs.YtbhfblogjlpnlabDoor
