/-
  MacroPlain returns true: the walk. Conditions: the handle of the type error; the macro, the values and the tokens lie in the memory, within the reach.
-/
import Derived.Test.YtbhfblogjlpnlabDoorMacPlainS
import Derived.Test.YtbhfblogjlpnlabDoorMacOurs
import Derived.Test.YtbhfblogjlpnlabDoorMacSame
import Derived.Test.YtbhfblogjlpnlabDoorMacAwake
namespace Go.Proofs.YtbhfblogjlpnlabDoor
open Go.RowKit

/-- What holds while the parts are put together again. -/
structure BInv (w0 : World) (ts : List Tk6) (pss : List (List Tk6)) (i k : Nat) (v : Value) (wr : World) : Prop where
  joined : Joined ts pss i k
  le : k ≤ ts.length
  own : wr.ownsRow w0.heap.size 56 6 v k (cellsOf (ts.take k))
  below : Below w0.heap.size w0 wr

set_option maxRecDepth 100000 in
set_option maxHeartbeats 8000000 in
theorem mplain_walk (m : Mac) (v vp vl va lv : Value) (vals : List (List Tk6)) (ts : List Tk6) (w : World) (hg : Handle w) (hm : MacV w v m vp vl) (hr : Reach m) (ha : TokRows w va vals) (hl1 : vals.length ≤ 140737488351232) (hl2 : ∀ p ∈ vals, p.length ≤ 140737488351232) (hv : Toks w lv ts) :
    Calls Tryd.prog 6 #[v, va, lv] w fun e w' => e = .returned (.bool true) ∧ Below w.heap.size w w' := by
  obtain ⟨i0, hi0, hz0, hz1, hz2⟩ := info_parts Tryd.infoTok
  obtain ⟨rfl, hps, hlines⟩ := hm
  obtain ⟨Ap, cp, rfl, -⟩ := hps.form
  obtain ⟨Al, cl, rfl, hlc, _, hlcell⟩ := hlines.form
  obtain ⟨Aa, ca, rfl, -⟩ := ha.form
  obtain ⟨At, ct, rfl, htc, _, htcell⟩ := hv.form
  obtain ⟨wB, hwB⟩ : ∃ wB, (w.alloc (.cells #[.string m.name, .slice Ap m.ps.length cp, .slice Al m.lines.length cl] 46)) = wB := ⟨_, rfl⟩
  have hMb : Blk wB w.heap.size 46 #[.string m.name, .slice Ap m.ps.length cp, .slice Al m.lines.length cl] := by rw [← hwB]; exact Blk.new _ _ _
  have hBb : Below w.heap.size w wB := by rw [← hwB]; exact (Below.refl _ _).alloc (Nat.le_refl _) _
  have HWB := Lib.hid hwB
  have HBB := Lib.hid hBb
  have HG := Lib.hid (fun W (hW : Below wB.heap.size wB W) => (hg.below hBb hg.pos).below hW (Nat.lt_of_lt_of_le hg.pos hBb.size))
  have HPS := Lib.hid (fun W (hW : Below wB.heap.size wB W) => (hps.below hBb).below hW)
  have HLN := Lib.hid (fun W (hW : Below wB.heap.size wB W) => (hlines.below hBb).below hW)
  have HAS := Lib.hid (fun W (hW : Below wB.heap.size wB W) => (ha.below hBb).below hW)
  have HTK := Lib.hid (fun W (hW : Below wB.heap.size wB W) => (hv.below hBb).below hW)
  have HM := Lib.hid (fun W (hW : Below wB.heap.size wB W) => (⟨(hMb.below hW hMb.lt).cell 0, (hMb.below hW hMb.lt).cell 1, (hMb.below hW hMb.lt).cell 2⟩ : W.cell? ⟨w.heap.size, 0, none⟩ = some (.string m.name) ∧ W.cell? ⟨w.heap.size, 1, none⟩ = some (.slice Ap m.ps.length cp) ∧ W.cell? ⟨w.heap.size, 2, none⟩ = some (.slice Al m.lines.length cl)))
  have HTC := Lib.hid (fun i t (h : ts[i]? = some t) => (by
    obtain ⟨b, o, hA, hc⟩ := htcell i t h
    exact ⟨b, o, hA, fun W hW => hc W (hBb.trans (hW.mono hBb.size))⟩ : ∃ b o, At = some ⟨b, o, none⟩ ∧ ∀ W, Below wB.heap.size wB W → W.cell? ⟨b, o + i * 6, none⟩ = some (.int .i64 t.kind) ∧ W.cell? ⟨b, o + i * 6 + 1, none⟩ = some (.int .i64 t.line) ∧ W.cell? ⟨b, o + i * 6 + 2, none⟩ = some (.int .i64 t.col) ∧ W.cell? ⟨b, o + i * 6 + 3, none⟩ = some (.string t.text) ∧ W.cell? ⟨b, o + i * 6 + 4, none⟩ = some (.int .u32 t.num) ∧ W.cell? ⟨b, o + i * 6 + 5, none⟩ = some (.int .i64 t.spare)))
  have HLC := Lib.hid (fun i ps (h : m.lines[i]? = some ps) => (by
    obtain ⟨b, o, d, hA, hd, hc⟩ := hlcell i ps h
    exact ⟨b, o, d, hA, hd, fun W hW => hc W (hBb.trans (hW.mono hBb.size))⟩ : ∃ b o d, Al = some ⟨b, o, none⟩ ∧ Toks w d ps ∧ ∀ W, Below wB.heap.size wB W → W.cell? ⟨b, o + i, none⟩ = some d))
  have HR := Lib.hid hr
  have HL2 := Lib.hid hl2
  have HAW := Lib.hid (mawake_any wB (HG.out wB (Below.refl _ _)))
  clear hwB hMb hBb hg hps hlines ha hr hl2 hv htcell hlcell
  go_enter Tryd.func6, Tryd.ntmps6
  go_wp2_with fail
  rw [HWB.out]
  refine HAW.out.mono ?_
  rintro e w1 ⟨rfl, hb1⟩
  have HB1 := Lib.hid hb1
  have HSM := Lib.hid (small_is m (.agg #[.string m.name, .slice Ap m.ps.length cp, .slice Al m.lines.length cl]) _ _ w1 ⟨rfl, HPS.out w1 hb1, HLN.out w1 hb1⟩ HR.out)
  obtain ⟨m0, m1, m2⟩ := HM.out w1 hb1
  clear hb1 HAW
  go_wp2_with fail
  refine HSM.out.mono ?_
  rintro e w2 ⟨⟨B, rfl, hB⟩, hb2⟩
  have HB2 := Lib.hid (HB1.out.trans (hb2.mono HB1.out.size))
  clear hb2 m0 m1 m2 HSM
  cases B with
  | false =>
    clear hB
    go_wp2_with fail
    go_ret
    exact ⟨rfl, HBB.out.trans (HB2.out.mono HBB.out.size)⟩
  | true =>
    have HF := Lib.hid (hB rfl)
    clear hB
    have HLI := Lib.hid (fun o (h : (w2.alloc o).cell? ⟨w2.heap.size, 0, none⟩ = some (.slice Aa vals.length ca)) => light_is vals (.slice Aa vals.length ca) w2.heap.size (w2.alloc o) (HAS.out _ (HB2.out.alloc HB2.out.size o)) h hl1 HL2.out)
    have HU2 : Hid (∀ o, Below wB.heap.size wB (w2.alloc o)) := Lib.hid (fun o => HB2.out.alloc HB2.out.size o)
    go_wp2_with fail
    refine (HLI.out _ (by simp)).mono ?_
    rintro e w3 ⟨⟨B2, rfl, hB2⟩, hb3⟩
    have HB3 := Lib.hid ((HU2.out _).trans (hb3.mono (HU2.out _).size))
    clear hb3 HLI HU2 hB2
    cases B2 with
    | false =>
      go_wp2_with fail
      go_ret
      exact ⟨rfl, HBB.out.trans (HB3.out.mono HBB.out.size)⟩
    | true =>
      by_cases hlong : 300 < ts.length
      · have hli : (300 : Int) < ts.length := by omega
        go_wp2_with fail
        go_ret
        exact ⟨rfl, HBB.out.trans (HB3.out.mono HBB.out.size)⟩
      · have hli : ¬ (300 : Int) < ts.length := by omega
        have hts : ts.length ≤ 300 := by omega
        obtain ⟨pss, hp⟩ := partsOf_all ts
        have HP := Lib.hid hp
        have hpl : pss.length ≤ 301 := by
          rcases hp with ⟨_, rfl⟩ | ⟨_, hp⟩
          · decide
          · have := parts_sum Tk6.mk3 hp
            omega
        have HPA := Lib.hid (parts_is ts _ pss w3 (by omega) (HTK.out w3 HB3.out) hp)
        clear hp hlong
        go_wp2_with fail
        refine HPA.out.mono ?_
        rintro e w4 ⟨⟨vP, us, rfl, hown, hrows⟩, hb4⟩
        obtain ⟨AP, cP, rfl⟩ := own_shape hown
        have HB4 := Lib.hid (HB3.out.trans (hb4.mono HB3.out.size))
        have HPR := Lib.hid (fun i p (h : pss[i]? = some p) => (by
          obtain ⟨u, hu, ho⟩ := hrows.2 i p h
          rcases hown.2 with ⟨_, h0⟩ | ⟨g, cap, cur, hA, hgg, hh, hc, _⟩
          · rw [List.eq_nil_of_length_eq_zero h0] at h
            cases h
          · injection hA with hA1 _ hA3
            subst hA1 hA3
            have hcell := hown.cells (g := g) rfl i u hu
            rw [addr0] at hcell
            obtain ⟨Au, cu, rfl⟩ := own_shape ho
            exact ⟨g, Au, cu, rfl, hc, ho, fun W hW => (hW.cell (p := ⟨g, i, none⟩) (World.block_lt_of_cell? w4 _ hcell)).trans hcell⟩ : ∃ g Au cu, AP = some ⟨g, 0, none⟩ ∧ pss.length ≤ cP ∧ w4.ownsRow w3.heap.size 56 6 (.slice Au p.length cu) p.length (cellsOf p) ∧ ∀ W, Below w4.heap.size w4 W → W.cell? ⟨g, i, none⟩ = some (.slice Au p.length cu)))
        clear hb4 hown hrows HPA
        go_wp2_with fail
        go_loopw [8, 9, 10] (fun bv av iv wr => ∃ (i k : Nat), i ≤ pss.length ∧ iv = .int .i64 i ∧ av = .int .i64 k ∧ Hid (BInv w4 ts pss i k bv wr)) (fun _ _ i _ => pss.length - (intOf i).toNat)
        case atStart => exact ⟨0, 0, Nat.zero_le _, rfl, rfl, Lib.hid ⟨.inl ⟨rfl, rfl, HP.out⟩, Nat.zero_le _, World.ownsRow_nil _ _ _ _, Below.refl _ _⟩⟩
        case round =>
          obtain ⟨i, k, hi, rfl, rfl, HI⟩ := hrel
          obtain ⟨Ab, cb, hvb⟩ := own_shape HI.out.own
          subst hvb
          have hkl := HI.out.le
          have HW4 : Hid (Below wB.heap.size wB wr) := Lib.hid (HB4.out.trans (HI.out.below.mono HB4.out.size))
          by_cases hil : i < pss.length
          · have hii : (i : Int) < pss.length := by omega
            have hib : (i : Int) ≤ 301 := by omega
            have hkb : (k : Int) ≤ 300 := by omega
            obtain ⟨p, hpk⟩ : ∃ p, pss[i]? = some p := ⟨_, List.getElem?_eq_getElem hil⟩
            obtain ⟨g, Au, cu, rfl, hpc, hpo, hpcell⟩ := HPR.out i p hpk
            have hic : (i : Int) < cP := by omega
            have r0 := hpcell wr HI.out.below
            have HPO := Lib.hid hpo
            have HPCELL := Lib.hid hpcell
            clear hpo hpcell
            rcases Nat.eq_zero_or_pos i with rfl | hpos
            · have hz : ¬ (0 : Int) < ((0 : Nat) : Int) := by omega
              have hk0 : k = 0 := by
                rcases HI.out.joined with ⟨_, h, _⟩ | ⟨h, _⟩
                · exact h
                · omega
              subst hk0
              obtain ⟨j1, j2, j3⟩ := joined_first HP.out hpk
              have hplen : (p.length : Int) ≤ 300 := by omega
              have HJ3 := Lib.hid j3
              have HCP : Hid (cellsOf (ts.take p.length) = cellsOf (ts.take 0) ++ cellsOf p) := Lib.hid (by have := cells_part ts p 0 (by rw [List.drop_zero]; exact j2); rwa [Nat.zero_add] at this)
              have HPL : Hid (p.length ≤ ts.length) := Lib.hid j1
              clear j2 j3 hpk
              go_wp2_with (first | (at_builtin; refine append_tok rfl _ _ rfl w4.heap.size 0 _ _ rfl HI.out.own _ w3.heap.size p rfl (own_below HPO.out HI.out.below) (by omega) HI.out.below.size ?_; intro v' w9 hown' hgrow; rw [Nat.zero_add, ← HCP.out] at hown'; have hb9 : Below w4.heap.size w4 w9 := Below.grown HI.out.below hgrow HI.out.below.size (fun x hx => (HI.out.own.lt x hx).1); have r9 := HPCELL.out w9 hb9))
              have HB9 : Hid (BInv w4 ts pss 1 p.length v' w9) := Lib.hid ⟨HJ3.out, HPL.out, hown', hb9⟩
              exact ⟨⟨1, p.length, by omega, rfl, rfl, HB9⟩, by simp [intOf]; omega⟩
            · have hz : (0 : Int) < i := by omega
              have hzd : decide ((0 : Int) < i) = true := decide_eq_true hz
              obtain ⟨j0, j1, j2, j3⟩ := joined_next HI.out.joined hpos hpk
              have hkt : (k : Int) < ts.length := by omega
              have hktd : decide ((k : Int) < ts.length) = true := decide_eq_true hkt
              have hkc : (k : Int) < ct := by omega
              obtain ⟨t, ht⟩ : ∃ t, ts[k]? = some t := ⟨_, List.getElem?_eq_getElem j0⟩
              obtain ⟨bt, ot, rfl, htc2⟩ := HTC.out k t ht
              obtain ⟨e0, e1, e2, e3, e4, e5⟩ := htc2 wr HW4.out
              have hplen : (p.length : Int) ≤ 300 := by omega
              have hsum : (k : Int) + 1 + p.length ≤ 300 := by omega
              have HJ3 := Lib.hid j3
              have HSN := Lib.hid (cellsOf_snoc ts k t ht)
              have HCP := Lib.hid (cells_part ts p (k + 1) j2)
              have HPL : Hid (k + 1 + p.length ≤ ts.length) := Lib.hid j1
              have HC2 := Lib.hid (fun (w1 : World) => cells_new w1 #[.int .i64 t.kind, .int .i64 t.line, .int .i64 t.col, .string t.text, .int .u32 t.num, .int .i64 t.spare] 56 w1.heap.size rfl)
              clear j2 j3 hpk ht htc2
              go_wp2_with (first
                | (at_builtin; refine wpList_append_own _ rfl _ _ 30 rfl w4.heap.size 56 i0 (.agg #[.int .i64 0, .int .i64 0, .int .i64 0, .string ByteArray.empty, .int .u32 0, .int .i64 0]) 6 56 Tryd.underlying30 hi0 hz0 hz1 hz2 rfl (by decide) _ _ _ rfl (HI.out.own.alloc _) ⟨wr.heap.size, 0, none⟩ 1 1 [.int .i64 t.kind, .int .i64 t.line, .int .i64 t.col, .string t.text, .int .u32 t.num, .int .i64 t.spare] rfl rfl (HC2.out wr) (tok_one t) (by unfold maxLen; omega) (by omega) (by have := HI.out.below.size; rw [World.size_alloc]; omega) ?_; intro v1 w9 hown1 hgrow1 _; rw [← HSN.out] at hown1; have hb9 : Below w4.heap.size w4 w9 := Below.grown (HI.out.below.alloc HI.out.below.size _) hgrow1 (by have := HI.out.below.size; rw [World.size_alloc]; omega) (fun x hx => (HI.out.own.lt x hx).1); have r9 := HPCELL.out w9 hb9; obtain ⟨A9, c9, rfl⟩ := own_shape hown1; have HO9 := Lib.hid hown1; have HB9 := Lib.hid hb9; clear hown1 hgrow1 hb9)
                | (at_builtin; refine append_tok rfl _ _ rfl w4.heap.size (k + 1) _ _ rfl HO9.out _ w3.heap.size p rfl (own_below HPO.out HB9.out) (by omega) HB9.out.size ?_; intro v2 w10 hown2 hgrow2; rw [← HCP.out] at hown2; have hb10 : Below w4.heap.size w4 w10 := Below.grown HB9.out hgrow2 HB9.out.size (fun x hx => (HO9.out.lt x hx).1); have r10 := HPCELL.out w10 hb10))
              have HB10 : Hid (BInv w4 ts pss (i + 1) (k + 1 + p.length) v2 w10) := Lib.hid ⟨HJ3.out, HPL.out, hown2, hb10⟩
              clear hown2 hgrow2 hb10 r10 r9 r0
              first
                | exact ⟨⟨i + 1, k + 1 + p.length, by omega, by go_num, by go_num, HB10⟩, by simp [intOf]; omega⟩
                | (go_roundw
                   case rel => exact ⟨i + 1, k + 1 + p.length, by omega, by go_num, by go_num, HB10⟩
                   case measure => simp [intOf]; omega)
          · obtain rfl : i = pss.length := by omega
            have hke := joined_end HI.out.joined
            subst hke
            have hob := HI.out.own
            rw [List.take_length] at hob
            have HTS := Lib.hid (tokens_same ts _ _ wr (by omega) (toks_of_own hob rfl) (HTK.out wr HW4.out))
            clear hob
            go_wp2_with fail
            refine HTS.out.mono ?_
            rintro e w5 ⟨rfl, hb5⟩
            have HB5 := Lib.hid (HW4.out.trans (hb5.mono HW4.out.size))
            clear hb5 HTS
            go_wp2_with fail
            go_loopw [11] (fun iv wx => ∃ j : Nat, j ≤ m.lines.length ∧ iv = .int .i64 j ∧ Hid (∀ q ps, q < j → m.lines[q]? = some ps → ∀ t ∈ ps, t.kind ≠ 3) ∧ Hid (Below wB.heap.size wB wx)) (fun iv _ => m.lines.length - (intOf iv).toNat)
            case atStart => exact ⟨0, Nat.zero_le _, rfl, Lib.hid (fun q ps h => by omega), HB5⟩
            case round =>
              obtain ⟨j, hj, rfl, HNP, HX⟩ := hrel
              have hfl := HF.out.lines
              obtain ⟨m0, m1, m2⟩ := HM.out _ HX.out
              by_cases hjl : j < m.lines.length
              · have hji : (j : Int) < m.lines.length := by omega
                have hjc : (j : Int) < cl := by omega
                have hjb : (j : Int) ≤ 600 := by omega
                obtain ⟨ps, hps⟩ : ∃ ps, m.lines[j]? = some ps := ⟨_, List.getElem?_eq_getElem hjl⟩
                have hpsl := HF.out.line ps (List.mem_of_getElem? hps)
                obtain ⟨bl, ol, dl, rfl, hdl, hdc⟩ := HLC.out j ps hps
                obtain ⟨Dl, cdl, rfl, hdl1, _, hdl2⟩ := hdl.form
                have HDC := Lib.hid hdc
                have HPS2 := Lib.hid hps
                have HDT := Lib.hid (fun q t (h : ps[q]? = some t) => (by
                  obtain ⟨b, o, hA, hc⟩ := hdl2 q t h
                  exact ⟨b, o, hA, fun W hW => (hc W (HBB.out.trans (hW.mono HBB.out.size))).1⟩ : ∃ b o, Dl = some ⟨b, o, none⟩ ∧ ∀ W, Below wB.heap.size wB W → W.cell? ⟨b, o + q * 6, none⟩ = some (.int .i64 t.kind)))
                have r1 := hdc _ HX.out
                clear hps hdl hdl2 hdc
                obtain ⟨wo, rfl⟩ : ∃ wo : World, wo = wr := ⟨_, rfl⟩
                go_wp2_with fail
                go_loopw [12] (fun kv wy => ∃ q : Nat, q ≤ ps.length ∧ kv = .int .i64 q ∧ Hid (∀ r t, r < q → ps[r]? = some t → t.kind ≠ 3) ∧ Hid (Below wB.heap.size wB wy)) (fun kv _ => ps.length - (intOf kv).toNat)
                case atStart => exact ⟨0, Nat.zero_le _, rfl, Lib.hid (fun r t h => by omega), HX⟩
                case round =>
                  obtain ⟨q, hq, rfl, HNK, HY⟩ := hrel
                  clear m0 m1 m2 r1
                  obtain ⟨m0, m1, m2⟩ := HM.out _ HY.out
                  have r1 := HDC.out _ HY.out
                  by_cases hql : q < ps.length
                  · have hqi : (q : Int) < ps.length := by omega
                    have hqc : (q : Int) < cdl := by omega
                    have hqb : (q : Int) ≤ 600 := by omega
                    obtain ⟨t, ht⟩ : ∃ t, ps[q]? = some t := ⟨_, List.getElem?_eq_getElem hql⟩
                    obtain ⟨bt, ot, rfl, hkc⟩ := HDT.out q t ht
                    have k0 := hkc _ HY.out
                    have HTT := Lib.hid ht
                    clear hkc ht
                    by_cases h3 : t.kind = 3
                    · have h3d : (t.kind == 3) = true := by rw [h3]; rfl
                      clear h3
                      go_wp2_with fail
                      go_ret
                      exact ⟨rfl, HBB.out.trans (HY.out.mono HBB.out.size)⟩
                    · have h3d : (t.kind == 3) = false := beq_eq_false_iff_ne.2 h3
                      have HNK2 : Hid (∀ r t, r < q + 1 → ps[r]? = some t → t.kind ≠ 3) := Lib.hid (fun r t' hr' ht' => by
                        rcases Nat.lt_or_ge r q with h | h
                        · exact HNK.out r t' h ht'
                        · obtain rfl : r = q := by omega
                          rw [HTT.out] at ht'
                          injection ht' with ht'
                          rw [← ht']
                          exact h3)
                      clear h3
                      go_wp2_with fail
                      go_roundw
                      case rel => exact ⟨q + 1, by omega, by go_num, HNK2, HY⟩
                      case measure => simp [intOf]; omega
                  · obtain rfl : q = ps.length := by omega
                    have HNP2 : Hid (∀ q ps, q < j + 1 → m.lines[q]? = some ps → ∀ t ∈ ps, t.kind ≠ 3) := Lib.hid (fun q' ps' hq' hps' t ht => by
                      rcases Nat.lt_or_ge q' j with h | h
                      · exact HNP.out q' ps' h hps' t ht
                      · obtain rfl : q' = j := by omega
                        rw [HPS2.out] at hps'
                        injection hps' with hps'
                        subst hps'
                        obtain ⟨r, hr, rfl⟩ := List.getElem_of_mem ht
                        exact HNK.out r _ hr (List.getElem?_eq_getElem hr))
                    go_wp2_with fail
                    go_roundw
                    case rel => exact ⟨j + 1, by omega, by go_num, HNP2, HY⟩
                    case measure => simp [intOf]; omega
              · obtain rfl : j = m.lines.length := by omega
                have HALL : Hid (∀ ps ∈ m.lines, ∀ t ∈ ps, t.kind ≠ 3) := Lib.hid (fun ps hps => by
                  obtain ⟨q, hq, rfl⟩ := List.getElem_of_mem hps
                  exact HNP.out q _ hq (List.getElem?_eq_getElem hq))
                obtain ⟨wX, rfl⟩ : ∃ wX : World, wX = wr := ⟨_, rfl⟩
                have HUP : Hid (∀ W, Below wX.heap.size wX W → Below wB.heap.size wB W) := Lib.hid (fun W hW => HX.out.trans (hW.mono HX.out.size))
                have HOU : Hid (∀ W, Below wX.heap.size wX W → Calls Tryd.prog 27 #[.agg #[.string m.name, .slice Ap m.ps.length cp, .slice Al m.lines.length cl]] W fun e w' => ∃ A n c, e = .returned (.agg #[.string m.name, .slice A n c, .slice Al m.lines.length cl]) ∧ Below wX.heap.size wX w') := Lib.hid (fun W hW => (ours_is m.ps m.name _ _ W (HPS.out W (HUP.out W hW)) (by have := HF.out.ps; omega) ⟨_, _, _, rfl⟩).mono (by
                  rintro e w' ⟨⟨vp', he, hp'⟩, hb⟩
                  obtain ⟨A, c, rfl, -⟩ := hp'.form
                  exact ⟨A, _, c, he, hW.trans (hb.mono hW.size)⟩))
                have HFI : Hid (∀ W A n c, Below wX.heap.size wX W → Calls Tryd.prog 30 #[.agg #[.string m.name, .slice A n c, .slice Al m.lines.length cl], .slice Aa vals.length ca] W fun e w' => ∃ A c, e = .returned (.slice A m.lines.length c) ∧ TokRows w' (.slice A m.lines.length c) m.lines ∧ Below wX.heap.size wX w') := Lib.hid (fun W A n c hW => (fill_is m.lines m.name A Aa n c vals.length ca _ W (HLN.out W (HUP.out W hW)) (by omega) (fun l hl => by have := HF.out.line l hl; omega) HALL.out).mono (by
                  rintro e w' ⟨⟨A', c', he, hr'⟩, hb⟩
                  exact ⟨A', c', he, hr', hW.trans (hb.mono hW.size)⟩))
                have HSA : Hid (∀ W A c, Below wX.heap.size wX W → TokRows W (.slice A m.lines.length c) m.lines → Calls Tryd.prog 21 #[.slice A m.lines.length c, .slice Al m.lines.length cl] W fun e w' => e = .returned (.bool true) ∧ Below wX.heap.size wX w') := Lib.hid (fun W A c hW hr' => (rows_same m.lines _ _ W (by omega) (fun l hl => by have := HF.out.line l hl; omega) hr' (HLN.out W (HUP.out W hW))).mono (by
                  rintro e w' ⟨he, hb⟩
                  exact ⟨he, hW.trans (hb.mono hW.size)⟩))
                have HMW : Hid (∀ W, Below wX.heap.size wX W → W.cell? ⟨w.heap.size, 0, none⟩ = some (.string m.name) ∧ W.cell? ⟨w.heap.size, 1, none⟩ = some (.slice Ap m.ps.length cp) ∧ W.cell? ⟨w.heap.size, 2, none⟩ = some (.slice Al m.lines.length cl)) := Lib.hid (fun W hW => HM.out W (HUP.out W hW))
                have HBW : Hid (∀ W, Below wX.heap.size wX W → Below w.heap.size w W) := Lib.hid (fun W hW => HBB.out.trans ((HUP.out W hW).mono HBB.out.size))
                go_wp2_with fail
                go_region_held3 (fun W => W.cell? ⟨w.heap.size, 0, none⟩ = some (.string m.name) ∧ W.cell? ⟨w.heap.size, 1, none⟩ = some (.slice Ap m.ps.length cp) ∧ W.cell? ⟨w.heap.size, 2, none⟩ = some (.slice Al m.lines.length cl) ∧ Below wX.heap.size wX W)
                  (first | exact ⟨m0, m1, m2, Below.refl _ _⟩ | exact ⟨m0, m1, m2, (Below.refl _ _).drew⟩ | (go_split_ands; exact ⟨by assumption, by assumption, by assumption, by assumption⟩) | go_keep)
                  (first | (go_at_call 27; go_split_ands; refine (HOU.out _ (by assumption)).mono ?_; rintro e w6 ⟨A6, n6, c6, rfl, hb6⟩; obtain ⟨x0, x1, x2⟩ := HMW.out w6 hb6) | (go_at_call 30; go_split_ands; refine (HFI.out _ _ _ _ (by assumption)).mono ?_; rintro e w7 ⟨A7, c7, rfl, hr7, hb7⟩; obtain ⟨y0, y1, y2⟩ := HMW.out w7 hb7) | (go_at_call 21; go_split_ands; refine (HSA.out _ _ _ (by assumption) (by assumption)).mono ?_; rintro e w8 ⟨rfl, hb8⟩; obtain ⟨z0, z1, z2⟩ := HMW.out w8 hb8))
                all_goals (try go_wp2_with fail)
                all_goals go_ret
                all_goals exact ⟨rfl, HBW.out _ hb8⟩
end Go.Proofs.YtbhfblogjlpnlabDoor
