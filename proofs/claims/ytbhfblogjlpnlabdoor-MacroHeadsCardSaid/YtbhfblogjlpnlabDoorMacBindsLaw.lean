/-
  MacroBinds returns true: the walk. Conditions: the handle of the type error; the macro and the arguments lie in the memory, within the reach.
-/
import Derived.Test.YtbhfblogjlpnlabDoorMacRBind
import Derived.Test.YtbhfblogjlpnlabDoorMacOurs
import Derived.Test.YtbhfblogjlpnlabDoorMacSame
import Derived.Test.YtbhfblogjlpnlabDoorMacAwake
namespace Go.Proofs.YtbhfblogjlpnlabDoor
open Go.RowKit

theorem bind_excl {ps : List HPar} {ass vals : List (List Tk6)} (h : BindOk ps ass vals) : ¬ BindBad ps ass := by
  rintro (hb | ⟨j, hj, hv⟩)
  · have := h.1
    omega
  · have hj2 : j < vals.length := by rw [h.2.1]; exact hj
    have := h.2.2 j _ (List.getElem?_eq_getElem hj2)
    rw [hv] at this
    cases this
theorem bind_one {ps : List HPar} {ass vals vals' : List (List Tk6)} (h : BindOk ps ass vals) (h' : BindOk ps ass vals') : vals = vals' := by
  apply List.ext_getElem?
  intro j
  rcases Nat.lt_or_ge j ps.length with hj | hj
  · have h1 : j < vals.length := by rw [h.2.1]; exact hj
    have h2 : j < vals'.length := by rw [h'.2.1]; exact hj
    have e1 := h.2.2 j _ (List.getElem?_eq_getElem h1)
    have e2 := h'.2.2 j _ (List.getElem?_eq_getElem h2)
    rw [e1] at e2
    rw [List.getElem?_eq_getElem h1, List.getElem?_eq_getElem h2]
    exact e2
  · rw [List.getElem?_eq_none (by rw [h.2.1]; exact hj), List.getElem?_eq_none (by rw [h'.2.1]; exact hj)]
theorem bind_few {ps : List HPar} {ass vals : List (List Tk6)} (h : BindOk ps ass vals) (h1 : ∀ p ∈ ps, p.dflt.length ≤ 600) (h2 : ∀ a ∈ ass, a.length ≤ 600) : ∀ v ∈ vals, v.length ≤ 1000000 := by
  intro v hv
  obtain ⟨j, hj, rfl⟩ := List.getElem_of_mem hv
  have e := h.2.2 j _ (List.getElem?_eq_getElem hj)
  unfold valAt at e
  split at e
  · have := h2 _ (List.mem_of_getElem? e)
    omega
  · split at e
    · rename_i p hp
      split at e
      · injection e with e
        rw [← e]
        have := h1 p (List.mem_of_getElem? hp)
        omega
      · cases e
    · cases e

set_option maxRecDepth 100000 in
set_option maxHeartbeats 8000000 in
theorem mbinds_walk (m : Mac) (v vp vl va : Value) (t : Tk6) (ass : List (List Tk6)) (w : World) (hg : Handle w) (hm : MacV w v m vp vl) (hr : Reach m) (ha : TokRows w va ass) (hl1 : ass.length ≤ 140737488351232) (hl2 : ∀ p ∈ ass, p.length ≤ 140737488351232) :
    Calls Tryd.prog 5 #[v, t.val, va] w fun e w' => e = .returned (.bool true) ∧ Below w.heap.size w w' := by
  obtain ⟨rfl, hps, hlines⟩ := hm
  obtain ⟨Ap, cp, rfl, -⟩ := hps.form
  obtain ⟨Al, cl, rfl, -⟩ := hlines.form
  obtain ⟨Aa, ca, rfl, -⟩ := ha.form
  obtain ⟨wB, hwB⟩ : ∃ wB, (w.alloc (.cells #[.string m.name, .slice Ap m.ps.length cp, .slice Al m.lines.length cl] 46)).alloc (.cells #[.int .i64 t.kind, .int .i64 t.line, .int .i64 t.col, .string t.text, .int .u32 t.num, .int .i64 t.spare] 56) = wB := ⟨_, rfl⟩
  have hMb : Blk wB w.heap.size 46 #[.string m.name, .slice Ap m.ps.length cp, .slice Al m.lines.length cl] := by rw [← hwB]; exact (Blk.new _ _ _).alloc _
  have hTb : Blk wB (w.heap.size + 1) 56 #[.int .i64 t.kind, .int .i64 t.line, .int .i64 t.col, .string t.text, .int .u32 t.num, .int .i64 t.spare] := by rw [← hwB]; have := Blk.new (w.alloc (.cells #[.string m.name, .slice Ap m.ps.length cp, .slice Al m.lines.length cl] 46)) 56 #[.int .i64 t.kind, .int .i64 t.line, .int .i64 t.col, .string t.text, .int .u32 t.num, .int .i64 t.spare]; simpa using this
  have hBb : Below w.heap.size w wB := by rw [← hwB]; exact ((Below.refl _ _).alloc (Nat.le_refl _) _).alloc (by simp) _
  have HWB := Lib.hid hwB
  have HBB := Lib.hid hBb
  have HG := Lib.hid (fun W (hW : Below wB.heap.size wB W) => (hg.below hBb hg.pos).below hW (Nat.lt_of_lt_of_le hg.pos hBb.size))
  have HPS := Lib.hid (fun W (hW : Below wB.heap.size wB W) => (hps.below hBb).below hW)
  have HLN := Lib.hid (fun W (hW : Below wB.heap.size wB W) => (hlines.below hBb).below hW)
  have HAS := Lib.hid (fun W (hW : Below wB.heap.size wB W) => (ha.below hBb).below hW)
  have HM := Lib.hid (fun W (hW : Below wB.heap.size wB W) => (⟨(hMb.below hW hMb.lt).cell 0, (hMb.below hW hMb.lt).cell 1, (hMb.below hW hMb.lt).cell 2⟩ : W.cell? ⟨w.heap.size, 0, none⟩ = some (.string m.name) ∧ W.cell? ⟨w.heap.size, 1, none⟩ = some (.slice Ap m.ps.length cp) ∧ W.cell? ⟨w.heap.size, 2, none⟩ = some (.slice Al m.lines.length cl)))
  have HT := Lib.hid (fun W (hW : Below wB.heap.size wB W) => (⟨(hTb.below hW hTb.lt).cell 0, (hTb.below hW hTb.lt).cell 1, (hTb.below hW hTb.lt).cell 2, (hTb.below hW hTb.lt).cell 3, (hTb.below hW hTb.lt).cell 4, (hTb.below hW hTb.lt).cell 5⟩ : W.cell? ⟨w.heap.size + 1, 0, none⟩ = some (.int .i64 t.kind) ∧ W.cell? ⟨w.heap.size + 1, 1, none⟩ = some (.int .i64 t.line) ∧ W.cell? ⟨w.heap.size + 1, 2, none⟩ = some (.int .i64 t.col) ∧ W.cell? ⟨w.heap.size + 1, 3, none⟩ = some (.string t.text) ∧ W.cell? ⟨w.heap.size + 1, 4, none⟩ = some (.int .u32 t.num) ∧ W.cell? ⟨w.heap.size + 1, 5, none⟩ = some (.int .i64 t.spare)))
  have HR := Lib.hid hr
  have HL2 := Lib.hid hl2
  have HAW := Lib.hid (mawake_any wB (HG.out wB (Below.refl _ _)))
  clear hwB hMb hTb hBb hg hps hlines ha hr hl2
  go_enter Tryd.func5, Tryd.ntmps5
  go_wp2_with fail
  rw [HWB.out]
  refine HAW.out.mono ?_
  rintro e w1 ⟨rfl, hb1⟩
  have HB1 := Lib.hid hb1
  have HSM := Lib.hid (small_is m (.agg #[.string m.name, .slice Ap m.ps.length cp, .slice Al m.lines.length cl]) _ _ w1 ⟨rfl, HPS.out w1 hb1, HLN.out w1 hb1⟩ HR.out)
  obtain ⟨m0, m1, m2⟩ := HM.out w1 hb1
  clear hb1 HAW
  go_wp2_with fail
  refine HSM.out.mono ?_
  rintro e w2 ⟨⟨B, rfl, hB⟩, hb2⟩
  have HB2 := Lib.hid (HB1.out.trans (hb2.mono HB1.out.size))
  clear hb2 m0 m1 m2 HSM
  cases B with
  | false =>
    clear hB
    go_wp2_with fail
    go_ret
    exact ⟨rfl, HBB.out.trans (HB2.out.mono HBB.out.size)⟩
  | true =>
    have HF := Lib.hid (hB rfl)
    clear hB
    have HLI := Lib.hid (fun o (h : (w2.alloc o).cell? ⟨w2.heap.size, 0, none⟩ = some (.slice Aa ass.length ca)) => light_is ass (.slice Aa ass.length ca) w2.heap.size (w2.alloc o) (HAS.out _ (HB2.out.alloc HB2.out.size o)) h hl1 HL2.out)
    have HU2 : Hid (∀ o, Below wB.heap.size wB (w2.alloc o)) := Lib.hid (fun o => HB2.out.alloc HB2.out.size o)
    go_wp2_with fail
    refine (HLI.out _ (by simp)).mono ?_
    rintro e w3 ⟨⟨B2, rfl, hB2⟩, hb3⟩
    have HB3 := Lib.hid ((HU2.out _).trans (hb3.mono (HU2.out _).size))
    clear hb3 HLI HU2
    cases B2 with
    | false =>
      clear hB2
      go_wp2_with fail
      go_ret
      exact ⟨rfl, HBB.out.trans (HB3.out.mono HBB.out.size)⟩
    | true =>
      have HFA := Lib.hid (hB2 rfl)
      clear hB2
      obtain ⟨c0, c1, c2⟩ := HM.out w3 HB3.out
      obtain ⟨s0, s1, s2, s3, s4, s5⟩ := HT.out w3 HB3.out
      have HUP : Hid (∀ W, Below w3.heap.size w3 W → Below wB.heap.size wB W) := Lib.hid (fun W hW => HB3.out.trans (hW.mono HB3.out.size))
      have HOU : Hid (∀ W, Below w3.heap.size w3 W → Calls Tryd.prog 27 #[.agg #[.string m.name, .slice Ap m.ps.length cp, .slice Al m.lines.length cl]] W fun e w' => ∃ A n c, e = .returned (.agg #[.string m.name, .slice A n c, .slice Al m.lines.length cl]) ∧ Pars w' (.slice A n c) m.ps ∧ Below w3.heap.size w3 w') := Lib.hid (fun W hW => (ours_is m.ps m.name _ _ W (HPS.out W (HUP.out W hW)) (by have := HF.out.ps; omega) ⟨_, _, _, rfl⟩).mono (by
        rintro e w' ⟨⟨vp', he, hp'⟩, hb⟩
        obtain ⟨A, c, rfl, -⟩ := hp'.form
        exact ⟨A, _, c, he, hp', hW.trans (hb.mono hW.size)⟩))
      have hbind := fun W (hW : Below w3.heap.size w3 W) A n c (hp : Pars W (.slice A n c) m.ps) => bind_is m.ps ass m.name (.slice A n c) (.slice Al m.lines.length cl) (.slice Aa ass.length ca) t W (HG.out W (HUP.out W hW)) hp (HAS.out W (HUP.out W hW)) (by have := HF.out.ps; omega) (fun p hp => by have := HF.out.dflt p hp; omega) (fun a ha => by have := HFA.out.2 a ha; omega) (.inr ⟨_, _, _, rfl⟩)
      have hrbind := fun W (hW : Below w3.heap.size w3 W) => rbind_is m.ps ass m.name (.slice Ap m.ps.length cp) (.slice Al m.lines.length cl) (.slice Aa ass.length ca) t W (HPS.out W (HUP.out W hW)) (HAS.out W (HUP.out W hW)) (by have := HF.out.ps; omega) ⟨_, _, _, rfl⟩
      have HMT : Hid (∀ W, Below w3.heap.size w3 W → W.cell? ⟨w.heap.size, 0, none⟩ = some (.string m.name) ∧ W.cell? ⟨w.heap.size, 1, none⟩ = some (.slice Ap m.ps.length cp) ∧ W.cell? ⟨w.heap.size, 2, none⟩ = some (.slice Al m.lines.length cl) ∧ W.cell? ⟨w.heap.size + 1, 0, none⟩ = some (.int .i64 t.kind) ∧ W.cell? ⟨w.heap.size + 1, 1, none⟩ = some (.int .i64 t.line) ∧ W.cell? ⟨w.heap.size + 1, 2, none⟩ = some (.int .i64 t.col) ∧ W.cell? ⟨w.heap.size + 1, 3, none⟩ = some (.string t.text) ∧ W.cell? ⟨w.heap.size + 1, 4, none⟩ = some (.int .u32 t.num) ∧ W.cell? ⟨w.heap.size + 1, 5, none⟩ = some (.int .i64 t.spare)) := Lib.hid (fun W hW => by
        obtain ⟨a, b, c⟩ := HM.out W (HUP.out W hW)
        exact ⟨a, b, c, HT.out W (HUP.out W hW)⟩)
      have HBW : Hid (∀ W, Below w3.heap.size w3 W → Below w.heap.size w W) := Lib.hid (fun W hW => HBB.out.trans ((HUP.out W hW).mono HBB.out.size))
      by_cases hbad : BindBad m.ps ass
      · have HBI : Hid (∀ W A n c, Below w3.heap.size w3 W → Pars W (.slice A n c) m.ps → Calls Tryd.prog 26 #[.agg #[.string m.name, .slice A n c, .slice Al m.lines.length cl], .agg #[.int .i64 t.kind, .int .i64 t.line, .int .i64 t.col, .string t.text, .int .u32 t.num, .int .i64 t.spare], .slice Aa ass.length ca] W fun e w' => ∃ b, e = .returned (.tuple #[.slice none 0 0, .iface 107 (.pointer (some ⟨b, 0, none⟩))]) ∧ Blk w' b 113 #[.int .i64 t.line, .int .i64 t.col, .iface 111 (.int .i64 9)] ∧ Below w3.heap.size w3 w') := Lib.hid (fun W A n c hW hp => (hbind W hW A n c hp).mono (by
          rintro e w' ⟨⟨v, vals, us, he, hok, hv, hrw⟩ | ⟨b, he, _, _, hblk⟩, hb⟩
          · exact absurd hbad (bind_excl hok)
          · exact ⟨b, he, hblk, hW.trans (hb.mono hW.size)⟩))
        clear hbind
        go_wp2_with fail
        go_region_held3 (fun W => W.cell? ⟨w.heap.size, 0, none⟩ = some (.string m.name) ∧ W.cell? ⟨w.heap.size, 1, none⟩ = some (.slice Ap m.ps.length cp) ∧ W.cell? ⟨w.heap.size, 2, none⟩ = some (.slice Al m.lines.length cl) ∧ W.cell? ⟨w.heap.size + 1, 0, none⟩ = some (.int .i64 t.kind) ∧ W.cell? ⟨w.heap.size + 1, 1, none⟩ = some (.int .i64 t.line) ∧ W.cell? ⟨w.heap.size + 1, 2, none⟩ = some (.int .i64 t.col) ∧ W.cell? ⟨w.heap.size + 1, 3, none⟩ = some (.string t.text) ∧ W.cell? ⟨w.heap.size + 1, 4, none⟩ = some (.int .u32 t.num) ∧ W.cell? ⟨w.heap.size + 1, 5, none⟩ = some (.int .i64 t.spare) ∧ Below w3.heap.size w3 W)
          (first | exact ⟨c0, c1, c2, s0, s1, s2, s3, s4, s5, Below.refl _ _⟩ | exact ⟨c0, c1, c2, s0, s1, s2, s3, s4, s5, (Below.refl _ _).drew⟩ | (go_split_ands; exact ⟨by assumption, by assumption, by assumption, by assumption, by assumption, by assumption, by assumption, by assumption, by assumption, by assumption⟩) | go_keep)
          (first | (go_at_call 27; go_split_ands; refine (HOU.out _ (by assumption)).mono ?_; rintro e w4 ⟨A4, n4, c4, rfl, hp4, hb4⟩; obtain ⟨x0, x1, x2, x3, x4, x5, x6, x7, x8⟩ := HMT.out w4 hb4) | (go_at_call 26; go_split_ands; refine (HBI.out _ _ _ _ (by assumption) (by assumption)).mono ?_; rintro e w5 ⟨b, rfl, hblk, hb5⟩; obtain ⟨y0, y1, y2, y3, y4, y5, y6, y7, y8⟩ := HMT.out w5 hb5))
        have HB5 := Lib.hid hb5
        clear c0 c1 c2 s0 s1 s2 s3 s4 s5
        go_wp2_with fail
        refine (hrbind w5 HB5.out).mono ?_
        rintro e w6 ⟨⟨v, vals, rfl, hok, hv⟩ | ⟨rfl, _⟩, hb6⟩
        · exact absurd hbad (bind_excl hok)
        have HB6 := Lib.hid (HB5.out.trans (hb6.mono HB5.out.size))
        have hblk6 := hblk.below hb6 hblk.lt
        have hk0 : Kept w6 t.line t.col 9 (.iface 107 (.pointer (some ⟨b, 0, none⟩))) 21 #[.slice none 0 0, .slice none 0 0] (w6.alloc (.cells #[.int .i64 t.line, .int .i64 t.col, .int .i64 9] 25)) :=
          ⟨Below.refl _ _, fun W' hb => fault_err b _ _ _ W' (HG.out W' (HUP.out W' (HB6.out.trans (((Below.refl _ _).alloc HB6.out.size _).trans (hb.mono (by simp; have := HB6.out.size; omega)))))) (by decide) (by decide) ((hblk6.alloc _).below hb (hblk6.alloc _).lt), fun W' _ => rows_same [] _ _ W' (by decide) (fun p hp => by cases hp) (.inl ⟨none, 0, rfl, Nat.zero_le _, rfl⟩) (.inl ⟨none, 0, rfl, Nat.zero_le _, rfl⟩)⟩
        clear hblk6 hblk
        clear hb6 hrbind
        go_wp2_with fail
        have HK0 := Lib.hid hk0
        clear hk0
        have hef := fun W => eql_faults t.line t.col 9 W
        go_region_held3 (fun W => W.cell? ⟨w6.heap.size, 0, none⟩ = some (.int .i64 t.line) ∧ W.cell? ⟨w6.heap.size, 1, none⟩ = some (.int .i64 t.col) ∧ W.cell? ⟨w6.heap.size, 2, none⟩ = some (.int .i64 9) ∧ Kept w6 t.line t.col 9 (.iface 107 (.pointer (some ⟨b, 0, none⟩))) 21 #[.slice none 0 0, .slice none 0 0] W)
          (first | exact ⟨HK0.out.drew.c0, HK0.out.drew.c1, HK0.out.drew.c2, HK0.out.drew⟩ | (go_split_ands; exact ⟨by assumption, by assumption, by assumption, by assumption⟩) | (go_split_ands; refine ⟨by assumption, by assumption, by assumption, Kept.drew (by assumption)⟩) | go_keep)
          (first | (go_at_call 20; go_split_ands; refine (kept_call (by assumption)).mono ?_; rintro e w7 ⟨rfl, d0, d1, d2, hk7⟩) | (go_at_call 21; go_split_ands; refine (kept_same (by assumption)).mono ?_; rintro e w7 ⟨rfl, d0, d1, d2, hk7⟩))
        all_goals (try go_wp2_with fail)
        all_goals go_ret
        all_goals exact ⟨rfl, (HBW.out _ (HB6.out.trans (((Below.refl _ _).alloc HB6.out.size _).trans (hk7.below.mono (Nat.le_succ_of_le HB6.out.size)))))⟩
      · have HBI : Hid (∀ W A n c, Below w3.heap.size w3 W → Pars W (.slice A n c) m.ps → Calls Tryd.prog 26 #[.agg #[.string m.name, .slice A n c, .slice Al m.lines.length cl], .agg #[.int .i64 t.kind, .int .i64 t.line, .int .i64 t.col, .string t.text, .int .u32 t.num, .int .i64 t.spare], .slice Aa ass.length ca] W fun e w' => ∃ Av nv cv vals, e = .returned (.tuple #[.slice Av nv cv, .nilIface]) ∧ BindOk m.ps ass vals ∧ TokRows w' (.slice Av nv cv) vals ∧ Below w3.heap.size w3 w') := Lib.hid (fun W A n c hW hp => (hbind W hW A n c hp).mono (by
          rintro e w' ⟨⟨v, vals, us, he, hok, hv, hrw⟩ | ⟨b, he, hb2, _⟩, hb⟩
          · have htr := tokRows_of_own hv hrw
            obtain ⟨Av, cv, rfl⟩ := own_shape hv
            exact ⟨Av, _, cv, vals, he, hok, htr, hW.trans (hb.mono hW.size)⟩
          · exact absurd hb2 hbad))
        clear hbind
        go_wp2_with fail
        go_region_held3 (fun W => W.cell? ⟨w.heap.size, 0, none⟩ = some (.string m.name) ∧ W.cell? ⟨w.heap.size, 1, none⟩ = some (.slice Ap m.ps.length cp) ∧ W.cell? ⟨w.heap.size, 2, none⟩ = some (.slice Al m.lines.length cl) ∧ W.cell? ⟨w.heap.size + 1, 0, none⟩ = some (.int .i64 t.kind) ∧ W.cell? ⟨w.heap.size + 1, 1, none⟩ = some (.int .i64 t.line) ∧ W.cell? ⟨w.heap.size + 1, 2, none⟩ = some (.int .i64 t.col) ∧ W.cell? ⟨w.heap.size + 1, 3, none⟩ = some (.string t.text) ∧ W.cell? ⟨w.heap.size + 1, 4, none⟩ = some (.int .u32 t.num) ∧ W.cell? ⟨w.heap.size + 1, 5, none⟩ = some (.int .i64 t.spare) ∧ Below w3.heap.size w3 W)
          (first | exact ⟨c0, c1, c2, s0, s1, s2, s3, s4, s5, Below.refl _ _⟩ | exact ⟨c0, c1, c2, s0, s1, s2, s3, s4, s5, (Below.refl _ _).drew⟩ | (go_split_ands; exact ⟨by assumption, by assumption, by assumption, by assumption, by assumption, by assumption, by assumption, by assumption, by assumption, by assumption⟩) | go_keep)
          (first | (go_at_call 27; go_split_ands; refine (HOU.out _ (by assumption)).mono ?_; rintro e w4 ⟨A4, n4, c4, rfl, hp4, hb4⟩; obtain ⟨x0, x1, x2, x3, x4, x5, x6, x7, x8⟩ := HMT.out w4 hb4) | (go_at_call 26; go_split_ands; refine (HBI.out _ _ _ _ (by assumption) (by assumption)).mono ?_; rintro e w5 ⟨Av, nv, cv, vals, rfl, hok, htr, hb5⟩; obtain ⟨y0, y1, y2, y3, y4, y5, y6, y7, y8⟩ := HMT.out w5 hb5))
        have HB5 := Lib.hid hb5
        clear c0 c1 c2 s0 s1 s2 s3 s4 s5
        go_wp2_with fail
        refine (hrbind w5 HB5.out).mono ?_
        rintro e w6 ⟨⟨v, vals', rfl, hok', hv⟩ | ⟨_, hb2⟩, hb6⟩
        case inr => exact absurd hb2 hbad
        obtain rfl := bind_one hok hok'
        obtain ⟨Aw, cw, rfl, -⟩ := hv.form
        have HB6 := Lib.hid (HB5.out.trans (hb6.mono HB5.out.size))
        have htr6 := htr.below hb6
        have hfew := bind_few hok (fun p hp => by have := HF.out.dflt p hp; omega) HFA.out.2
        have hlen : vals.length ≤ 1000000 := by have := hok.2.1; have := HF.out.ps; omega
        have hk0 : Kept w6 0 0 0 .nilIface 21 #[.slice Av nv cv, .slice Aw vals.length cw] (w6.alloc (.cells #[.int .i64 0, .int .i64 0, .int .i64 0] 25)) :=
          ⟨Below.refl _ _, fun W' _ => fault_nil W', fun W' hb => rows_same vals _ _ W' hlen hfew ((htr6.below ((Below.refl _ _).alloc (Nat.le_refl _) _)).below hb) ((hv.below ((Below.refl _ _).alloc (Nat.le_refl _) _)).below hb)⟩
        clear htr6 htr hv hfew hlen hok hok'
        clear hb6 hrbind
        go_wp2_with fail
        have HK0 := Lib.hid hk0
        clear hk0
        have hef := fun W => eql_faults 0 0 0 W
        go_region_held3 (fun W => W.cell? ⟨w6.heap.size, 0, none⟩ = some (.int .i64 0) ∧ W.cell? ⟨w6.heap.size, 1, none⟩ = some (.int .i64 0) ∧ W.cell? ⟨w6.heap.size, 2, none⟩ = some (.int .i64 0) ∧ Kept w6 0 0 0 .nilIface 21 #[.slice Av nv cv, .slice Aw vals.length cw] W)
          (first | exact ⟨HK0.out.drew.c0, HK0.out.drew.c1, HK0.out.drew.c2, HK0.out.drew⟩ | (go_split_ands; exact ⟨by assumption, by assumption, by assumption, by assumption⟩) | (go_split_ands; refine ⟨by assumption, by assumption, by assumption, Kept.drew (by assumption)⟩) | go_keep)
          (first | (go_at_call 20; go_split_ands; refine (kept_call (by assumption)).mono ?_; rintro e w7 ⟨rfl, d0, d1, d2, hk7⟩) | (go_at_call 21; go_split_ands; refine (kept_same (by assumption)).mono ?_; rintro e w7 ⟨rfl, d0, d1, d2, hk7⟩))
        all_goals (try go_wp2_with fail)
        all_goals go_ret
        all_goals exact ⟨rfl, (HBW.out _ (HB6.out.trans (((Below.refl _ _).alloc HB6.out.size _).trans (hk7.below.mono (Nat.le_succ_of_le HB6.out.size)))))⟩
end Go.Proofs.YtbhfblogjlpnlabDoor
