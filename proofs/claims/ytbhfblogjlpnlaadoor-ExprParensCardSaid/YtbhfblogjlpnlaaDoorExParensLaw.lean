/-
  ExprParens returns true: the walk. Conditions: the handle of the type error; the string's length is within the model's bound.
-/
import Derived.Test.YtbhfblogjlpnlaaDoorExRParse
import Derived.Test.YtbhfblogjlpnlaaDoorExSame
import Derived.Test.YtbhfblogjlpnlaaDoorExPar
import Derived.Test.YtbhfblogjlpnlaaDoorExLex
import Derived.Lib.SmallJoins
namespace Go.Proofs.YtbhfblogjlpnlaaDoor
open Go.RowKit

theorem out_code (a b : Value) (L C c : Int) (W : World) : (Instr.field 47 (.agg #[a, b, .int .i64 L, .int .i64 C, .int .i64 c]) 4).run Tryd.prog W = .ok (.int .i64 c) W := by
  have h1 : Tryd.prog.underlying 47 = some (.struct (Tryd.prog.fieldsOf 47)) := by kernel_rfl
  have h3 : (Tryd.prog.fieldsOf 47)[4]? = some ⟨"Code", 3, 4, false, "", "", 64⟩ := by kernel_rfl
  have hp : Tryd.prog.plainKey 3 = true := by kernel_rfl
  have p4 := run_part_plain (P := Tryd.prog) (e := 3) hp (xs := #[a, b, .int .i64 L, .int .i64 C, .int .i64 c]) (off := 4) (v := .int .i64 c) (w := W) rfl
  simp [Instr.field, run_underlying h1, h3, asAgg, p4]

/-- []byte of a string. -/
theorem conv_str (W : World) (s : ByteArray) (hs : s.size ≤ maxLen) : ∃ (c : Nat) (wB : World), (convert 9 22 (.string s)).run Tryd.prog W = .ok (.slice (some ⟨W.heap.size, 0, none⟩) s.size c) wB ∧ s.size ≤ c ∧ c ≤ maxLen ∧ W.heap.size < wB.heap.size ∧ Below W.heap.size W wB ∧ ∀ j (hj : j < s.size), wB.cell? ⟨W.heap.size, 0 + j, none⟩ = some (.int .u8 ((s[j]'hj).toNat : Int)) := by
  refine ⟨_, _, Lib.run_convert_string_bytes (P := Tryd.prog) W 9 22 5 s Tryd.underlying9 Tryd.underlying22 Tryd.underlying5, grownCap_ge .., grownCap_le_maxLen _ _ _ _ hs, by rw [Lib.bytesWorld_size]; omega, Joins.below_bytesWorld _ _ _ _ (Nat.le_refl _), fun j hj => ?_⟩
  rw [Nat.zero_add, Lib.bytesWorld_cell W _ s j hj]
  have : s.data.toList.getD j 0 = s[j]'hj := by
    have h2 : j < s.data.toList.length := by simpa using hj
    rw [List.getD, List.getElem?_eq_getElem h2]
    rfl
  rw [this]

set_option maxRecDepth 100000 in
set_option maxHeartbeats 4000000 in
theorem parens_long (s : ByteArray) (w : World) (hg : Handle w) (hl : 200 < s.size) : Calls Tryd.prog 10 #[.string s] w fun e w' => e = .returned (.bool true) ∧ Below w.heap.size w w' := by
  have HAW := Lib.hid (eawake_any w hg)
  have hli : (200 : Int) < s.size := by omega
  clear hg
  go_enter Tryd.func10, Tryd.ntmps10
  go_wp2_with fail
  refine HAW.out.mono ?_
  rintro e w1 ⟨rfl, hb1⟩
  have HB1 := Lib.hid hb1
  clear hb1
  go_wp2_with fail
  go_ret
  exact ⟨rfl, HB1.out⟩

set_option maxRecDepth 100000 in
set_option maxHeartbeats 4000000 in
theorem parens_bad (s : ByteArray) (all : List (List Piece)) (l i : Nat) (cd : Int) (w : World) (hg : Handle w) (hl : s.size ≤ 200) (h : LinesR 0 (cut s.data.toList) all (some (l, i, cd))) : Calls Tryd.prog 10 #[.string s] w fun e w' => e = .returned (.bool true) ∧ Below w.heap.size w w' := by
  have HAW := Lib.hid (eawake_any w hg)
  have hli : ¬ (200 : Int) < s.size := by omega
  have hcd : (0 : Int) < cd := by have := (h.code _ _ _ rfl).2.2; omega
  have HLR := Lib.hid h
  clear hg h
  go_enter Tryd.func10, Tryd.ntmps10
  go_wp2_with fail
  refine HAW.out.mono ?_
  rintro e w1 ⟨rfl, hb1⟩
  obtain ⟨c, wB, hcv, hc1, hc2, hc3, hbB, hcell⟩ := conv_str w1 s (by unfold maxLen; omega)
  have HL := Lib.hid (lines_any s w1.heap.size 0 c all _ wB (by omega) hc1 hc2 HLR.out hc3 hcell)
  have HBB := Lib.hid (hb1.trans (hbB.mono hb1.size))
  clear hb1 hbB hcell hc1 hc2 hc3
  go_wp2_with fail
  refine HL.out.mono ?_
  rintro e w2 ⟨rfl, hb2⟩
  have HB2 := Lib.hid (HBB.out.trans (hb2.mono HBB.out.size))
  have HUP : Hid (∀ o, Below w.heap.size w (w2.alloc o)) := Lib.hid (fun o => HB2.out.alloc HB2.out.size o)
  clear hb2 hcv
  go_wp2_with fail
  go_ret
  exact ⟨rfl, HUP.out _⟩

set_option maxRecDepth 100000 in
set_option maxHeartbeats 8000000 in
theorem parens_fell (s : ByteArray) (ps qs : List Piece) (ts us : List Tk6) (j : Nat) (cd : Int) (w : World) (hg : Handle w) (hl : s.size ≤ 200) (h : LinesR 0 (cut s.data.toList) [ps] none) (h2 : LinesR 0 (cut (⟨#[40]⟩ ++ s ++ ⟨#[41]⟩ : ByteArray).data.toList) [qs] none) (htm : Tame ts) (htu : Tame us) (hts : ps.map (Piece.tk 1) = ts) (hus : qs.map (Piece.tk 1) = us) (hr : ERun ts (.bound 1) 0 0 [] (.inr (j, cd)))  : Calls Tryd.prog 10 #[.string s] w fun e w' => e = .returned (.bool true) ∧ Below w.heap.size w w' := by
  have HAW := Lib.hid (eawake_any w hg)
  have hli : ¬ (200 : Int) < s.size := by omega
  have hadd1 : ¬ 9223372036854775807 < 1 + s.size := by omega
  have hadd2 : ¬ 9223372036854775807 < 1 + s.size + 1 := by omega
  have hs2 : (⟨#[40]⟩ ++ s ++ ⟨#[41]⟩ : ByteArray).size ≤ 300 := by rw [ByteArray.size_append, ByteArray.size_append]; show 1 + s.size + 1 ≤ 300; omega
  have HS2 := Lib.hid hs2
  have HLR := Lib.hid h
  have HL2 := Lib.hid h2
  have HG := Lib.hid hg
  have HTM := Lib.hid htm
  have HTU := Lib.hid htu
  have HTS := Lib.hid hts
  have HUS := Lib.hid hus
  have HR := Lib.hid hr
  clear hg h h2 htm htu hts hus hr hs2
  go_enter Tryd.func10, Tryd.ntmps10
  go_wp2_with fail
  refine HAW.out.mono ?_
  rintro e w1 ⟨rfl, hb1⟩
  obtain ⟨c, wB, hcv, hc1, hc2, hc3, hbB, hcell⟩ := conv_str w1 s (by unfold maxLen; omega)
  have HL := Lib.hid (lines_any s w1.heap.size 0 c [ps] none wB (by omega) hc1 hc2 HLR.out hc3 hcell)
  have HBB := Lib.hid (hb1.trans (hbB.mono hb1.size))
  clear hb1 hbB hcell hc1 hc2 hc3
  go_wp2_with fail
  refine HL.out.mono ?_
  rintro e w2 ⟨⟨av, aus, rfl, hown, hlines⟩, hb2⟩
  have HB2 := Lib.hid (HBB.out.trans (hb2.mono HBB.out.size))
  obtain ⟨ag, acp, rfl, ahcp, ahgl, ahrow⟩ : ∃ g cp, av = .slice (some ⟨g, 0, none⟩) 1 cp ∧ 1 ≤ cp ∧ g < w2.heap.size ∧ ∀ (i : Nat) (u : Value), aus[i]? = some u → w2.cell? ⟨g, i, none⟩ = some u := by
    rcases hown.2 with ⟨_, h0⟩ | ⟨g, cap, cur, hv, hg, hh, hc, hm, _⟩
    · cases h0
    · subst hv
      refine ⟨g, cap, rfl, hc, (Array.getElem?_eq_some_iff.1 hh).1, fun i u hu => ?_⟩
      have := hown.cells (g := g) rfl i u hu
      rwa [addr0] at this
  obtain ⟨u0, hu0, ho0⟩ := hlines.2 0 ps rfl
  have ht0 : Toks w2 u0 ts := HTS.out ▸ toks_line hlines (i := 0) rfl hu0
  obtain ⟨A0, d0, rfl, -⟩ := ht0.form
  have hcp2 : (0 : Int) < acp := by omega
  have HT0 := Lib.hid (fun W (hW : Below w2.heap.size w2 W) => ht0.below hW)
  have HR0 := Lib.hid (fun W (hW : Below w2.heap.size w2 W) => (hW.cell (p := ⟨ag, 0, none⟩) ahgl).trans (ahrow 0 _ hu0))
  have HUP : Hid (∀ o, Below w2.heap.size w2 (w2.alloc o)) := Lib.hid (fun o => (Below.refl _ _).alloc (Nat.le_refl _) o)
  clear hb2 hcv hown hlines ahrow hu0 ho0 ht0 ahgl
  go_upto_region 8 with fail
  have hbA := HUP.out (.cells #[.int .i64 0, .int .i64 0, .int .i64 0] 30)
  generalize w2.alloc (.cells #[.int .i64 0, .int .i64 0, .int .i64 0] 30) = wA at hbA ⊢
  have HBA := Lib.hid hbA
  obtain ⟨S2, hS2⟩ : ∃ S2 : ByteArray, ⟨#[40]⟩ ++ s ++ ⟨#[41]⟩ = S2 := ⟨_, rfl⟩
  rw [hS2] at HS2 HL2
  obtain ⟨c2, wB2, hcv2, k1, k2, k3, kB, kcell⟩ := conv_str wA S2 (by have := HS2.out; unfold maxLen; omega)
  have hcv3 : (convert 9 22 (.string (⟨#[40]⟩ ++ s ++ ⟨#[41]⟩))).run Tryd.prog wA = .ok (.slice (some ⟨wA.heap.size, 0, none⟩) S2.size c2) wB2 := by rw [hS2]; exact hcv2
  clear hcv2 hS2
  have HLL := Lib.hid (lines_any _ wA.heap.size 0 c2 [qs] none wB2 (by have := HS2.out; omega) k1 k2 HL2.out k3 kcell)
  have HBC := Lib.hid (hbA.trans (kB.mono hbA.size))
  clear hbA kB kcell k1 k2 k3
  go_wp2_with fail
  refine HLL.out.mono ?_
  rintro e w5 ⟨⟨bv, bus, rfl, hown, hlines⟩, hb5⟩
  have HB5 := Lib.hid (HBC.out.trans (hb5.mono HBC.out.size))
  obtain ⟨bg, bcp, rfl, bhcp, bhgl, bhrow⟩ : ∃ g cp, bv = .slice (some ⟨g, 0, none⟩) 1 cp ∧ 1 ≤ cp ∧ g < w5.heap.size ∧ ∀ (i : Nat) (u : Value), bus[i]? = some u → w5.cell? ⟨g, i, none⟩ = some u := by
    rcases hown.2 with ⟨_, h0⟩ | ⟨g, cap, cur, hv, hg, hh, hc, hm, _⟩
    · cases h0
    · subst hv
      refine ⟨g, cap, rfl, hc, (Array.getElem?_eq_some_iff.1 hh).1, fun i u hu => ?_⟩
      have := hown.cells (g := g) rfl i u hu
      rwa [addr0] at this
  obtain ⟨u1, hu1, ho1⟩ := hlines.2 0 qs rfl
  have ht1 : Toks w5 u1 us := HUS.out ▸ toks_line hlines (i := 0) rfl hu1
  obtain ⟨A1, d1, rfl, -⟩ := ht1.form
  have hcp3 : (0 : Int) < bcp := by omega
  have HT1 := Lib.hid (fun W (hW : Below w5.heap.size w5 W) => ht1.below hW)
  have HR1 := Lib.hid (fun W (hW : Below w5.heap.size w5 W) => (hW.cell (p := ⟨bg, 0, none⟩) bhgl).trans (bhrow 0 _ hu1))
  have HUP5 : Hid (∀ o, Below w5.heap.size w5 (w5.alloc o)) := Lib.hid (fun o => (Below.refl _ _).alloc (Nat.le_refl _) o)
  have r0 : ∀ o', (w5.alloc o').cell? ⟨ag, 0, none⟩ = some (.slice A0 ts.length d0) := fun o' => HR0.out _ (HB5.out.trans ((HUP5.out o').mono HB5.out.size))
  have HW5 := Lib.hid (HB2.out.trans (HB5.out.mono HB2.out.size))
  have HP := Lib.hid (fun o => parse_is ts _ _ (w5.alloc o) (HG.out.below (HW5.out.trans ((HUP5.out o).mono HW5.out.size)) HG.out.pos) HTM.out (HT0.out _ (HB5.out.trans ((HUP5.out o).mono HB5.out.size))) HR.out)
  clear hb5 hcv3 hown hlines bhrow hu1 ho1 ht1 bhgl
  go_wp2_with fail
  refine (HP.out _).mono ?_
  rintro e w6 ⟨b, rfl, _, _, hb6⟩
  have HB6 := Lib.hid (HW5.out.trans (((HUP5.out _).trans (hb6.mono (HUP5.out _).size)).mono HW5.out.size))
  clear hb6 r0
  go_wp2_with fail
  go_ret
  exact ⟨rfl, HB6.out⟩

set_option maxRecDepth 100000 in
set_option maxHeartbeats 8000000 in
theorem parens_more (s : ByteArray) (ps qs : List Piece) (ts us : List Tk6) (j : Nat) (ns : List Nd) (w : World) (hg : Handle w) (hl : s.size ≤ 200) (h : LinesR 0 (cut s.data.toList) [ps] none) (h2 : LinesR 0 (cut (⟨#[40]⟩ ++ s ++ ⟨#[41]⟩ : ByteArray).data.toList) [qs] none) (htm : Tame ts) (htu : Tame us) (hts : ps.map (Piece.tk 1) = ts) (hus : qs.map (Piece.tk 1) = us) (hr : ERun ts (.bound 1) 0 0 [] (.inl (j, ns))) (hj : j < ts.length) : Calls Tryd.prog 10 #[.string s] w fun e w' => e = .returned (.bool true) ∧ Below w.heap.size w w' := by
  have HAW := Lib.hid (eawake_any w hg)
  have hli : ¬ (200 : Int) < s.size := by omega
  have hadd1 : ¬ 9223372036854775807 < 1 + s.size := by omega
  have hadd2 : ¬ 9223372036854775807 < 1 + s.size + 1 := by omega
  have hs2 : (⟨#[40]⟩ ++ s ++ ⟨#[41]⟩ : ByteArray).size ≤ 300 := by rw [ByteArray.size_append, ByteArray.size_append]; show 1 + s.size + 1 ≤ 300; omega
  have HS2 := Lib.hid hs2
  have HLR := Lib.hid h
  have HL2 := Lib.hid h2
  have HG := Lib.hid hg
  have HTM := Lib.hid htm
  have HTU := Lib.hid htu
  have HTS := Lib.hid hts
  have HUS := Lib.hid hus
  have HR := Lib.hid hr
  clear hg h h2 htm htu hts hus hr hs2
  go_enter Tryd.func10, Tryd.ntmps10
  go_wp2_with fail
  refine HAW.out.mono ?_
  rintro e w1 ⟨rfl, hb1⟩
  obtain ⟨c, wB, hcv, hc1, hc2, hc3, hbB, hcell⟩ := conv_str w1 s (by unfold maxLen; omega)
  have HL := Lib.hid (lines_any s w1.heap.size 0 c [ps] none wB (by omega) hc1 hc2 HLR.out hc3 hcell)
  have HBB := Lib.hid (hb1.trans (hbB.mono hb1.size))
  clear hb1 hbB hcell hc1 hc2 hc3
  go_wp2_with fail
  refine HL.out.mono ?_
  rintro e w2 ⟨⟨av, aus, rfl, hown, hlines⟩, hb2⟩
  have HB2 := Lib.hid (HBB.out.trans (hb2.mono HBB.out.size))
  obtain ⟨ag, acp, rfl, ahcp, ahgl, ahrow⟩ : ∃ g cp, av = .slice (some ⟨g, 0, none⟩) 1 cp ∧ 1 ≤ cp ∧ g < w2.heap.size ∧ ∀ (i : Nat) (u : Value), aus[i]? = some u → w2.cell? ⟨g, i, none⟩ = some u := by
    rcases hown.2 with ⟨_, h0⟩ | ⟨g, cap, cur, hv, hg, hh, hc, hm, _⟩
    · cases h0
    · subst hv
      refine ⟨g, cap, rfl, hc, (Array.getElem?_eq_some_iff.1 hh).1, fun i u hu => ?_⟩
      have := hown.cells (g := g) rfl i u hu
      rwa [addr0] at this
  obtain ⟨u0, hu0, ho0⟩ := hlines.2 0 ps rfl
  have ht0 : Toks w2 u0 ts := HTS.out ▸ toks_line hlines (i := 0) rfl hu0
  obtain ⟨A0, d0, rfl, -⟩ := ht0.form
  have hcp2 : (0 : Int) < acp := by omega
  have HT0 := Lib.hid (fun W (hW : Below w2.heap.size w2 W) => ht0.below hW)
  have HR0 := Lib.hid (fun W (hW : Below w2.heap.size w2 W) => (hW.cell (p := ⟨ag, 0, none⟩) ahgl).trans (ahrow 0 _ hu0))
  have HUP : Hid (∀ o, Below w2.heap.size w2 (w2.alloc o)) := Lib.hid (fun o => (Below.refl _ _).alloc (Nat.le_refl _) o)
  clear hb2 hcv hown hlines ahrow hu0 ho0 ht0 ahgl
  go_upto_region 8 with fail
  have hbA := HUP.out (.cells #[.int .i64 0, .int .i64 0, .int .i64 0] 30)
  generalize w2.alloc (.cells #[.int .i64 0, .int .i64 0, .int .i64 0] 30) = wA at hbA ⊢
  have HBA := Lib.hid hbA
  obtain ⟨S2, hS2⟩ : ∃ S2 : ByteArray, ⟨#[40]⟩ ++ s ++ ⟨#[41]⟩ = S2 := ⟨_, rfl⟩
  rw [hS2] at HS2 HL2
  obtain ⟨c2, wB2, hcv2, k1, k2, k3, kB, kcell⟩ := conv_str wA S2 (by have := HS2.out; unfold maxLen; omega)
  have hcv3 : (convert 9 22 (.string (⟨#[40]⟩ ++ s ++ ⟨#[41]⟩))).run Tryd.prog wA = .ok (.slice (some ⟨wA.heap.size, 0, none⟩) S2.size c2) wB2 := by rw [hS2]; exact hcv2
  clear hcv2 hS2
  have HLL := Lib.hid (lines_any _ wA.heap.size 0 c2 [qs] none wB2 (by have := HS2.out; omega) k1 k2 HL2.out k3 kcell)
  have HBC := Lib.hid (hbA.trans (kB.mono hbA.size))
  clear hbA kB kcell k1 k2 k3
  go_wp2_with fail
  refine HLL.out.mono ?_
  rintro e w5 ⟨⟨bv, bus, rfl, hown, hlines⟩, hb5⟩
  have HB5 := Lib.hid (HBC.out.trans (hb5.mono HBC.out.size))
  obtain ⟨bg, bcp, rfl, bhcp, bhgl, bhrow⟩ : ∃ g cp, bv = .slice (some ⟨g, 0, none⟩) 1 cp ∧ 1 ≤ cp ∧ g < w5.heap.size ∧ ∀ (i : Nat) (u : Value), bus[i]? = some u → w5.cell? ⟨g, i, none⟩ = some u := by
    rcases hown.2 with ⟨_, h0⟩ | ⟨g, cap, cur, hv, hg, hh, hc, hm, _⟩
    · cases h0
    · subst hv
      refine ⟨g, cap, rfl, hc, (Array.getElem?_eq_some_iff.1 hh).1, fun i u hu => ?_⟩
      have := hown.cells (g := g) rfl i u hu
      rwa [addr0] at this
  obtain ⟨u1, hu1, ho1⟩ := hlines.2 0 qs rfl
  have ht1 : Toks w5 u1 us := HUS.out ▸ toks_line hlines (i := 0) rfl hu1
  obtain ⟨A1, d1, rfl, -⟩ := ht1.form
  have hcp3 : (0 : Int) < bcp := by omega
  have HT1 := Lib.hid (fun W (hW : Below w5.heap.size w5 W) => ht1.below hW)
  have HR1 := Lib.hid (fun W (hW : Below w5.heap.size w5 W) => (hW.cell (p := ⟨bg, 0, none⟩) bhgl).trans (bhrow 0 _ hu1))
  have HUP5 : Hid (∀ o, Below w5.heap.size w5 (w5.alloc o)) := Lib.hid (fun o => (Below.refl _ _).alloc (Nat.le_refl _) o)
  have r0 : ∀ o', (w5.alloc o').cell? ⟨ag, 0, none⟩ = some (.slice A0 ts.length d0) := fun o' => HR0.out _ (HB5.out.trans ((HUP5.out o').mono HB5.out.size))
  have HW5 := Lib.hid (HB2.out.trans (HB5.out.mono HB2.out.size))
  have HP := Lib.hid (fun o => parse_is ts _ _ (w5.alloc o) (HG.out.below (HW5.out.trans ((HUP5.out o).mono HW5.out.size)) HG.out.pos) HTM.out (HT0.out _ (HB5.out.trans ((HUP5.out o).mono HB5.out.size))) HR.out)
  clear hb5 hcv3 hown hlines bhrow hu1 ho1 ht1 bhgl
  go_wp2_with fail
  refine (HP.out _).mono ?_
  rintro e w6 ⟨vn, A, cr, rfl, hown, _, hb6⟩
  have HB6 := Lib.hid (HW5.out.trans (((HUP5.out _).trans (hb6.mono (HUP5.out _).size)).mono HW5.out.size))
  obtain ⟨m, hm⟩ : ∃ m, ts.length - j = m + 1 := ⟨ts.length - j - 1, by omega⟩
  rw [hm]
  have hmi : (0 : Int) < (m : Int) + 1 := by omega
  clear hb6 r0 hown hm hj
  go_wp2_with fail
  go_ret
  exact ⟨rfl, HB6.out⟩

set_option maxRecDepth 100000 in
set_option maxHeartbeats 8000000 in
theorem parens_deep (s : ByteArray) (ps qs : List Piece) (ts us : List Tk6) (ns : List Nd) (j : Nat) (cd : Int) (w : World) (hg : Handle w) (hl : s.size ≤ 200) (h : LinesR 0 (cut s.data.toList) [ps] none) (h2 : LinesR 0 (cut (⟨#[40]⟩ ++ s ++ ⟨#[41]⟩ : ByteArray).data.toList) [qs] none) (htm : Tame ts) (htu : Tame us) (hts : ps.map (Piece.tk 1) = ts) (hus : qs.map (Piece.tk 1) = us) (hr : ERun ts (.bound 1) 0 0 [] (.inl (ts.length, ns))) (hu : ERun us (.bound 1) 0 0 [] (.inr (j, cd))) (hcd : 0 < cd) : Calls Tryd.prog 10 #[.string s] w fun e w' => e = .returned (.bool true) ∧ Below w.heap.size w w' := by
  have HU := Lib.hid hu
  have hfld := out_code
  clear hu
  have HAW := Lib.hid (eawake_any w hg)
  have hli : ¬ (200 : Int) < s.size := by omega
  have hadd1 : ¬ 9223372036854775807 < 1 + s.size := by omega
  have hadd2 : ¬ 9223372036854775807 < 1 + s.size + 1 := by omega
  have hs2 : (⟨#[40]⟩ ++ s ++ ⟨#[41]⟩ : ByteArray).size ≤ 300 := by rw [ByteArray.size_append, ByteArray.size_append]; show 1 + s.size + 1 ≤ 300; omega
  have HS2 := Lib.hid hs2
  have HLR := Lib.hid h
  have HL2 := Lib.hid h2
  have HG := Lib.hid hg
  have HTM := Lib.hid htm
  have HTU := Lib.hid htu
  have HTS := Lib.hid hts
  have HUS := Lib.hid hus
  have HR := Lib.hid hr
  clear hg h h2 htm htu hts hus hr hs2
  go_enter Tryd.func10, Tryd.ntmps10
  go_wp2_with fail
  refine HAW.out.mono ?_
  rintro e w1 ⟨rfl, hb1⟩
  obtain ⟨c, wB, hcv, hc1, hc2, hc3, hbB, hcell⟩ := conv_str w1 s (by unfold maxLen; omega)
  have HL := Lib.hid (lines_any s w1.heap.size 0 c [ps] none wB (by omega) hc1 hc2 HLR.out hc3 hcell)
  have HBB := Lib.hid (hb1.trans (hbB.mono hb1.size))
  clear hb1 hbB hcell hc1 hc2 hc3
  go_wp2_with fail
  refine HL.out.mono ?_
  rintro e w2 ⟨⟨av, aus, rfl, hown, hlines⟩, hb2⟩
  have HB2 := Lib.hid (HBB.out.trans (hb2.mono HBB.out.size))
  obtain ⟨ag, acp, rfl, ahcp, ahgl, ahrow⟩ : ∃ g cp, av = .slice (some ⟨g, 0, none⟩) 1 cp ∧ 1 ≤ cp ∧ g < w2.heap.size ∧ ∀ (i : Nat) (u : Value), aus[i]? = some u → w2.cell? ⟨g, i, none⟩ = some u := by
    rcases hown.2 with ⟨_, h0⟩ | ⟨g, cap, cur, hv, hg, hh, hc, hm, _⟩
    · cases h0
    · subst hv
      refine ⟨g, cap, rfl, hc, (Array.getElem?_eq_some_iff.1 hh).1, fun i u hu => ?_⟩
      have := hown.cells (g := g) rfl i u hu
      rwa [addr0] at this
  obtain ⟨u0, hu0, ho0⟩ := hlines.2 0 ps rfl
  have ht0 : Toks w2 u0 ts := HTS.out ▸ toks_line hlines (i := 0) rfl hu0
  obtain ⟨A0, d0, rfl, -⟩ := ht0.form
  have hcp2 : (0 : Int) < acp := by omega
  have HT0 := Lib.hid (fun W (hW : Below w2.heap.size w2 W) => ht0.below hW)
  have HR0 := Lib.hid (fun W (hW : Below w2.heap.size w2 W) => (hW.cell (p := ⟨ag, 0, none⟩) ahgl).trans (ahrow 0 _ hu0))
  have HUP : Hid (∀ o, Below w2.heap.size w2 (w2.alloc o)) := Lib.hid (fun o => (Below.refl _ _).alloc (Nat.le_refl _) o)
  clear hb2 hcv hown hlines ahrow hu0 ho0 ht0 ahgl
  go_upto_region 8 with fail
  have hbA := HUP.out (.cells #[.int .i64 0, .int .i64 0, .int .i64 0] 30)
  generalize w2.alloc (.cells #[.int .i64 0, .int .i64 0, .int .i64 0] 30) = wA at hbA ⊢
  have HBA := Lib.hid hbA
  obtain ⟨S2, hS2⟩ : ∃ S2 : ByteArray, ⟨#[40]⟩ ++ s ++ ⟨#[41]⟩ = S2 := ⟨_, rfl⟩
  rw [hS2] at HS2 HL2
  obtain ⟨c2, wB2, hcv2, k1, k2, k3, kB, kcell⟩ := conv_str wA S2 (by have := HS2.out; unfold maxLen; omega)
  have hcv3 : (convert 9 22 (.string (⟨#[40]⟩ ++ s ++ ⟨#[41]⟩))).run Tryd.prog wA = .ok (.slice (some ⟨wA.heap.size, 0, none⟩) S2.size c2) wB2 := by rw [hS2]; exact hcv2
  clear hcv2 hS2
  have HLL := Lib.hid (lines_any _ wA.heap.size 0 c2 [qs] none wB2 (by have := HS2.out; omega) k1 k2 HL2.out k3 kcell)
  have HBC := Lib.hid (hbA.trans (kB.mono hbA.size))
  clear hbA kB kcell k1 k2 k3
  go_wp2_with fail
  refine HLL.out.mono ?_
  rintro e w5 ⟨⟨bv, bus, rfl, hown, hlines⟩, hb5⟩
  have HB5 := Lib.hid (HBC.out.trans (hb5.mono HBC.out.size))
  obtain ⟨bg, bcp, rfl, bhcp, bhgl, bhrow⟩ : ∃ g cp, bv = .slice (some ⟨g, 0, none⟩) 1 cp ∧ 1 ≤ cp ∧ g < w5.heap.size ∧ ∀ (i : Nat) (u : Value), bus[i]? = some u → w5.cell? ⟨g, i, none⟩ = some u := by
    rcases hown.2 with ⟨_, h0⟩ | ⟨g, cap, cur, hv, hg, hh, hc, hm, _⟩
    · cases h0
    · subst hv
      refine ⟨g, cap, rfl, hc, (Array.getElem?_eq_some_iff.1 hh).1, fun i u hu => ?_⟩
      have := hown.cells (g := g) rfl i u hu
      rwa [addr0] at this
  obtain ⟨u1, hu1, ho1⟩ := hlines.2 0 qs rfl
  have ht1 : Toks w5 u1 us := HUS.out ▸ toks_line hlines (i := 0) rfl hu1
  obtain ⟨A1, d1, rfl, -⟩ := ht1.form
  have hcp3 : (0 : Int) < bcp := by omega
  have HT1 := Lib.hid (fun W (hW : Below w5.heap.size w5 W) => ht1.below hW)
  have HR1 := Lib.hid (fun W (hW : Below w5.heap.size w5 W) => (hW.cell (p := ⟨bg, 0, none⟩) bhgl).trans (bhrow 0 _ hu1))
  have HUP5 : Hid (∀ o, Below w5.heap.size w5 (w5.alloc o)) := Lib.hid (fun o => (Below.refl _ _).alloc (Nat.le_refl _) o)
  have r0 : ∀ o', (w5.alloc o').cell? ⟨ag, 0, none⟩ = some (.slice A0 ts.length d0) := fun o' => HR0.out _ (HB5.out.trans ((HUP5.out o').mono HB5.out.size))
  have HW5 := Lib.hid (HB2.out.trans (HB5.out.mono HB2.out.size))
  have HP := Lib.hid (fun o => parse_is ts _ _ (w5.alloc o) (HG.out.below (HW5.out.trans ((HUP5.out o).mono HW5.out.size)) HG.out.pos) HTM.out (HT0.out _ (HB5.out.trans ((HUP5.out o).mono HB5.out.size))) HR.out)
  clear hb5 hcv3 hown hlines bhrow hu1 ho1 ht1 bhgl
  go_wp2_with fail
  refine (HP.out _).mono ?_
  rintro e w6 ⟨vn, A, cr, rfl, hown, _, hb6⟩
  obtain ⟨An, cn, rfl⟩ := own_shape hown
  have HN6 := Lib.hid (nds_of_own hown)
  have HX6 := Lib.hid ((HUP5.out _).trans (hb6.mono (HUP5.out _).size))
  rw [Nat.sub_self]
  have r1 := HR1.out w6 HX6.out
  have HRP := Lib.hid (rparse_is us _ _ w6 HTU.out (HT1.out w6 HX6.out) (mrun_of HU.out))
  clear hb6 r0 hown
  go_wp2_with fail
  refine HRP.out.mono ?_
  rintro e w7 ⟨rfl, hb7⟩
  have HB7 := Lib.hid (HW5.out.trans ((HX6.out.trans (hb7.mono HX6.out.size)).mono HW5.out.size))
  clear hb7 r1
  go_wp2_with fail
  go_ret
  exact ⟨rfl, HB7.out⟩

set_option maxRecDepth 100000 in
set_option maxHeartbeats 8000000 in
theorem parens_good (s : ByteArray) (ps qs : List Piece) (ts us : List Tk6) (ns : List Nd) (w : World) (hg : Handle w) (hl : s.size ≤ 200) (h : LinesR 0 (cut s.data.toList) [ps] none) (h2 : LinesR 0 (cut (⟨#[40]⟩ ++ s ++ ⟨#[41]⟩ : ByteArray).data.toList) [qs] none) (htm : Tame ts) (htu : Tame us) (hts : ps.map (Piece.tk 1) = ts) (hus : qs.map (Piece.tk 1) = us) (hr : ERun ts (.bound 1) 0 0 [] (.inl (ts.length, ns))) (hu : ERun us (.bound 1) 0 0 [] (.inl (us.length, ns.map Nd.on))) (hcol : ∀ n ∈ ns, 0 ≤ n.col ∧ n.col ≤ 100000) : Calls Tryd.prog 10 #[.string s] w fun e w' => e = .returned (.bool true) ∧ Below w.heap.size w w' := by
  have HU := Lib.hid hu
  have hfld := out_code
  have HCOL := Lib.hid hcol
  clear hu hcol
  have HAW := Lib.hid (eawake_any w hg)
  have hli : ¬ (200 : Int) < s.size := by omega
  have hadd1 : ¬ 9223372036854775807 < 1 + s.size := by omega
  have hadd2 : ¬ 9223372036854775807 < 1 + s.size + 1 := by omega
  have hs2 : (⟨#[40]⟩ ++ s ++ ⟨#[41]⟩ : ByteArray).size ≤ 300 := by rw [ByteArray.size_append, ByteArray.size_append]; show 1 + s.size + 1 ≤ 300; omega
  have HS2 := Lib.hid hs2
  have HLR := Lib.hid h
  have HL2 := Lib.hid h2
  have HG := Lib.hid hg
  have HTM := Lib.hid htm
  have HTU := Lib.hid htu
  have HTS := Lib.hid hts
  have HUS := Lib.hid hus
  have HR := Lib.hid hr
  clear hg h h2 htm htu hts hus hr hs2
  go_enter Tryd.func10, Tryd.ntmps10
  go_wp2_with fail
  refine HAW.out.mono ?_
  rintro e w1 ⟨rfl, hb1⟩
  obtain ⟨c, wB, hcv, hc1, hc2, hc3, hbB, hcell⟩ := conv_str w1 s (by unfold maxLen; omega)
  have HL := Lib.hid (lines_any s w1.heap.size 0 c [ps] none wB (by omega) hc1 hc2 HLR.out hc3 hcell)
  have HBB := Lib.hid (hb1.trans (hbB.mono hb1.size))
  clear hb1 hbB hcell hc1 hc2 hc3
  go_wp2_with fail
  refine HL.out.mono ?_
  rintro e w2 ⟨⟨av, aus, rfl, hown, hlines⟩, hb2⟩
  have HB2 := Lib.hid (HBB.out.trans (hb2.mono HBB.out.size))
  obtain ⟨ag, acp, rfl, ahcp, ahgl, ahrow⟩ : ∃ g cp, av = .slice (some ⟨g, 0, none⟩) 1 cp ∧ 1 ≤ cp ∧ g < w2.heap.size ∧ ∀ (i : Nat) (u : Value), aus[i]? = some u → w2.cell? ⟨g, i, none⟩ = some u := by
    rcases hown.2 with ⟨_, h0⟩ | ⟨g, cap, cur, hv, hg, hh, hc, hm, _⟩
    · cases h0
    · subst hv
      refine ⟨g, cap, rfl, hc, (Array.getElem?_eq_some_iff.1 hh).1, fun i u hu => ?_⟩
      have := hown.cells (g := g) rfl i u hu
      rwa [addr0] at this
  obtain ⟨u0, hu0, ho0⟩ := hlines.2 0 ps rfl
  have ht0 : Toks w2 u0 ts := HTS.out ▸ toks_line hlines (i := 0) rfl hu0
  obtain ⟨A0, d0, rfl, -⟩ := ht0.form
  have hcp2 : (0 : Int) < acp := by omega
  have HT0 := Lib.hid (fun W (hW : Below w2.heap.size w2 W) => ht0.below hW)
  have HR0 := Lib.hid (fun W (hW : Below w2.heap.size w2 W) => (hW.cell (p := ⟨ag, 0, none⟩) ahgl).trans (ahrow 0 _ hu0))
  have HUP : Hid (∀ o, Below w2.heap.size w2 (w2.alloc o)) := Lib.hid (fun o => (Below.refl _ _).alloc (Nat.le_refl _) o)
  clear hb2 hcv hown hlines ahrow hu0 ho0 ht0 ahgl
  go_upto_region 8 with fail
  have hbA := HUP.out (.cells #[.int .i64 0, .int .i64 0, .int .i64 0] 30)
  generalize w2.alloc (.cells #[.int .i64 0, .int .i64 0, .int .i64 0] 30) = wA at hbA ⊢
  have HBA := Lib.hid hbA
  obtain ⟨S2, hS2⟩ : ∃ S2 : ByteArray, ⟨#[40]⟩ ++ s ++ ⟨#[41]⟩ = S2 := ⟨_, rfl⟩
  rw [hS2] at HS2 HL2
  obtain ⟨c2, wB2, hcv2, k1, k2, k3, kB, kcell⟩ := conv_str wA S2 (by have := HS2.out; unfold maxLen; omega)
  have hcv3 : (convert 9 22 (.string (⟨#[40]⟩ ++ s ++ ⟨#[41]⟩))).run Tryd.prog wA = .ok (.slice (some ⟨wA.heap.size, 0, none⟩) S2.size c2) wB2 := by rw [hS2]; exact hcv2
  clear hcv2 hS2
  have HLL := Lib.hid (lines_any _ wA.heap.size 0 c2 [qs] none wB2 (by have := HS2.out; omega) k1 k2 HL2.out k3 kcell)
  have HBC := Lib.hid (hbA.trans (kB.mono hbA.size))
  clear hbA kB kcell k1 k2 k3
  go_wp2_with fail
  refine HLL.out.mono ?_
  rintro e w5 ⟨⟨bv, bus, rfl, hown, hlines⟩, hb5⟩
  have HB5 := Lib.hid (HBC.out.trans (hb5.mono HBC.out.size))
  obtain ⟨bg, bcp, rfl, bhcp, bhgl, bhrow⟩ : ∃ g cp, bv = .slice (some ⟨g, 0, none⟩) 1 cp ∧ 1 ≤ cp ∧ g < w5.heap.size ∧ ∀ (i : Nat) (u : Value), bus[i]? = some u → w5.cell? ⟨g, i, none⟩ = some u := by
    rcases hown.2 with ⟨_, h0⟩ | ⟨g, cap, cur, hv, hg, hh, hc, hm, _⟩
    · cases h0
    · subst hv
      refine ⟨g, cap, rfl, hc, (Array.getElem?_eq_some_iff.1 hh).1, fun i u hu => ?_⟩
      have := hown.cells (g := g) rfl i u hu
      rwa [addr0] at this
  obtain ⟨u1, hu1, ho1⟩ := hlines.2 0 qs rfl
  have ht1 : Toks w5 u1 us := HUS.out ▸ toks_line hlines (i := 0) rfl hu1
  obtain ⟨A1, d1, rfl, -⟩ := ht1.form
  have hcp3 : (0 : Int) < bcp := by omega
  have HT1 := Lib.hid (fun W (hW : Below w5.heap.size w5 W) => ht1.below hW)
  have HR1 := Lib.hid (fun W (hW : Below w5.heap.size w5 W) => (hW.cell (p := ⟨bg, 0, none⟩) bhgl).trans (bhrow 0 _ hu1))
  have HUP5 : Hid (∀ o, Below w5.heap.size w5 (w5.alloc o)) := Lib.hid (fun o => (Below.refl _ _).alloc (Nat.le_refl _) o)
  have r0 : ∀ o', (w5.alloc o').cell? ⟨ag, 0, none⟩ = some (.slice A0 ts.length d0) := fun o' => HR0.out _ (HB5.out.trans ((HUP5.out o').mono HB5.out.size))
  have HW5 := Lib.hid (HB2.out.trans (HB5.out.mono HB2.out.size))
  have HP := Lib.hid (fun o => parse_is ts _ _ (w5.alloc o) (HG.out.below (HW5.out.trans ((HUP5.out o).mono HW5.out.size)) HG.out.pos) HTM.out (HT0.out _ (HB5.out.trans ((HUP5.out o).mono HB5.out.size))) HR.out)
  clear hb5 hcv3 hown hlines bhrow hu1 ho1 ht1 bhgl
  go_wp2_with fail
  refine (HP.out _).mono ?_
  rintro e w6 ⟨vn, A, cr, rfl, hown, _, hb6⟩
  obtain ⟨An, cn, rfl⟩ := own_shape hown
  have HN6 := Lib.hid (nds_of_own hown)
  have HX6 := Lib.hid ((HUP5.out _).trans (hb6.mono (HUP5.out _).size))
  rw [Nat.sub_self]
  have r1 := HR1.out w6 HX6.out
  have HRP := Lib.hid (rparse_is us _ _ w6 HTU.out (HT1.out w6 HX6.out) (mrun_of HU.out))
  clear hb6 r0 hown
  go_wp2_with fail
  refine HRP.out.mono ?_
  rintro e w7 ⟨⟨vn7, A7, c7, rfl, hown7, _⟩, hb7⟩
  obtain ⟨An7, cn7, rfl⟩ := own_shape hown7
  have HX7 := Lib.hid (HX6.out.trans (hb7.mono HX6.out.size))
  have r2 := HR1.out w7 HX7.out
  have HN7 := Lib.hid (HN6.out.below hb7)
  have HP8 := Lib.hid (parse_is us _ _ w7 (HG.out.below (HW5.out.trans (HX7.out.mono HW5.out.size)) HG.out.pos) HTU.out (HT1.out w7 HX7.out) HU.out)
  clear hb7 r1 hown7
  go_wp2_with fail
  refine HP8.out.mono ?_
  rintro e w8 ⟨vn8, A8, c8, rfl, hown8, _, hb8⟩
  obtain ⟨An8, cn8, rfl⟩ := own_shape hown8
  have HA := Lib.hid (HN7.out.below hb8)
  have HB := Lib.hid (nds_of_own hown8)
  have HX8 := Lib.hid (HX7.out.trans (hb8.mono HX7.out.size))
  have HW8 := Lib.hid (HW5.out.trans (HX8.out.mono HW5.out.size))
  rw [Nat.sub_self, List.length_map]
  have hra : ∀ (i : Nat) (n : Nd), ns[i]? = some n → (i : Int) < cn ∧ ∃ b1, An = some ⟨b1, 0, none⟩ ∧ ∀ W, Below w8.heap.size w8 W → W.cell? ⟨b1, i * 5, none⟩ = some (.int .i64 n.kind) ∧ W.cell? ⟨b1, i * 5 + 1, none⟩ = some (.int .i64 n.line) ∧ W.cell? ⟨b1, i * 5 + 2, none⟩ = some (.int .i64 n.col) ∧ W.cell? ⟨b1, i * 5 + 3, none⟩ = some (.int .u32 n.num) ∧ W.cell? ⟨b1, i * 5 + 4, none⟩ = some (.string n.name) := fun i n hi => by
    obtain ⟨Aa, ca, hva, hca, hx⟩ := HA.out.form
    injection hva with e1 _ e3
    subst e1 e3
    have hil := (List.getElem?_eq_some_iff.1 hi).1
    exact ⟨by omega, hx i n hi⟩
  have hrb : ∀ (i : Nat) (n : Nd), ns[i]? = some n → (i : Int) < cn8 ∧ ∃ b1, An8 = some ⟨b1, 0, none⟩ ∧ ∀ W, Below w8.heap.size w8 W → W.cell? ⟨b1, i * 5, none⟩ = some (.int .i64 n.kind) ∧ W.cell? ⟨b1, i * 5 + 1, none⟩ = some (.int .i64 n.line) ∧ W.cell? ⟨b1, i * 5 + 2, none⟩ = some (.int .i64 (n.col + 1)) ∧ W.cell? ⟨b1, i * 5 + 3, none⟩ = some (.int .u32 n.num) ∧ W.cell? ⟨b1, i * 5 + 4, none⟩ = some (.string n.name) := fun i n hi => by
    obtain ⟨Aa, ca, hva, hca, hx⟩ := HB.out.form
    injection hva with e1 _ e3
    subst e1 e3
    have hil := (List.getElem?_eq_some_iff.1 hi).1
    rw [List.length_map] at hca
    exact ⟨by omega, hx i n.on (by rw [List.getElem?_map, hi]; rfl)⟩
  have HRA := Lib.hid hra
  have HRB := Lib.hid hrb
  clear hb8 r2 hown8 hra hrb
  go_wp2_with fail
  go_loopw [11] (fun i wr => ∃ k : Nat, k ≤ ns.length ∧ i = .int .i64 k ∧ Hid (Below w8.heap.size w8 wr)) (fun i _ => ns.length - (intOf i).toNat)
  case atStart => exact ⟨0, Nat.zero_le _, rfl, Lib.hid (Below.refl _ _)⟩
  case round =>
    obtain ⟨k, hk, rfl, HX⟩ := hrel
    by_cases hlt : k < ns.length
    · have HLT := Lib.hid hlt
      have hki : (k : Int) < ns.length := by omega
      have hkk : (k : Int) ≤ 100000 := by
        have h1 := erun_few HR.out _ _ rfl
        simp only [List.length_nil] at h1
        have h2 := HTM.out.few
        omega
      obtain ⟨n, hn⟩ : ∃ n, ns[k]? = some n := ⟨_, List.getElem?_eq_getElem hlt⟩
      obtain ⟨hc0, hc1⟩ := HCOL.out n (List.mem_of_getElem? hn)
      obtain ⟨hka, b1, rfl, hs1⟩ := HRA.out k n hn
      obtain ⟨hkb, b2, rfl, hs2⟩ := HRB.out k n hn
      obtain ⟨e0, e1, e2, e3, e4⟩ := hs1 wr HX.out
      obtain ⟨f0, f1, f2, f3, f4⟩ := hs2 wr HX.out
      have hwr : IntKind.i64.wrap (n.col + 1) = n.col + 1 := wrap_small _ (by omega) (by omega)
      clear hs1 hs2 hn
      go_wp2_with fail
      go_quiet (fail)
      go_wp2_with fail
      go_roundw
      case rel => exact ⟨k + 1, by have := HLT.out; omega, by go_num, Lib.hid (bdrew HX.out)⟩
      case measure => have := HLT.out; simp [intOf]; omega
    · obtain rfl : k = ns.length := by omega
      go_wp2_with fail
      go_ret
      exact ⟨rfl, HW8.out.trans (HX.out.mono HW8.out.size)⟩

set_option maxRecDepth 100000 in
set_option maxHeartbeats 4000000 in
theorem parens_many (s : ByteArray) (all : List (List Piece)) (w : World) (hg : Handle w) (hl : s.size ≤ 200) (h : LinesR 0 (cut s.data.toList) all none) (h1 : all.length ≠ 1) : Calls Tryd.prog 10 #[.string s] w fun e w' => e = .returned (.bool true) ∧ Below w.heap.size w w' := by
  have HAW := Lib.hid (eawake_any w hg)
  have hli : ¬ (200 : Int) < s.size := by omega
  have hne : ((all.length : Int) != 1) = true := by
    have : ((all.length : Int) == 1) = false := beq_eq_false_iff_ne.2 (by omega)
    unfold bne
    rw [this]
    rfl
  have hne2 : ((all.length : Int) == 1) = false := beq_eq_false_iff_ne.2 (by omega)
  have HLR := Lib.hid h
  clear hg h
  go_enter Tryd.func10, Tryd.ntmps10
  go_wp2_with fail
  refine HAW.out.mono ?_
  rintro e w1 ⟨rfl, hb1⟩
  obtain ⟨c, wB, hcv, hc1, hc2, hc3, hbB, hcell⟩ := conv_str w1 s (by unfold maxLen; omega)
  have HL := Lib.hid (lines_any s w1.heap.size 0 c all _ wB (by omega) hc1 hc2 HLR.out hc3 hcell)
  have HBB := Lib.hid (hb1.trans (hbB.mono hb1.size))
  clear hb1 hbB hcell hc1 hc2 hc3
  go_wp2_with fail
  refine HL.out.mono ?_
  rintro e w2 ⟨⟨v, us, rfl, hown, _⟩, hb2⟩
  obtain ⟨Av, cv, rfl⟩ := own_shape hown
  have HB2 := Lib.hid (HBB.out.trans (hb2.mono HBB.out.size))
  have HUP : Hid (∀ o, Below w.heap.size w (w2.alloc o)) := Lib.hid (fun o => HB2.out.alloc HB2.out.size o)
  clear hb2 hcv hown
  go_wp2_with fail
  go_ret
  exact ⟨rfl, HUP.out _⟩

theorem right_on (ps : List Piece) : (ps.map (Piece.right 1)).map (Piece.tk 1) = (ps.map (Piece.tk 1)).map Tk6.on := by
  rw [List.map_map, List.map_map]
  refine List.map_congr_left fun p _ => ?_
  show (⟨p.kind, 1, (((1 + p.at_ : Nat) : Int) + 1), ba p.text, p.num, 0⟩ : Tk6) = ⟨p.kind, 1, (p.at_ : Int) + 1 + 1, ba p.text, p.num, 0⟩
  rw [show (((1 + p.at_ : Nat) : Int) + 1) = (p.at_ : Int) + 1 + 1 by omega]

theorem parens_law (s : ByteArray) (w : World) (hg : Handle w) : Calls Tryd.prog 10 #[.string s] w fun e w' => e = .returned (.bool true) ∧ Below w.heap.size w w' := by
  by_cases hl : 200 < s.size
  · exact parens_long s w hg hl
  · obtain ⟨all, err, h⟩ := lines_all (cut s.data.toList) 0
    cases err with
    | some x =>
      obtain ⟨l, i, cd⟩ := x
      exact parens_bad s all l i cd w hg (by omega) h
    | none =>
      by_cases h1 : all.length = 1
      · obtain ⟨ps, tail, rfl, hat, ht, h2⟩ := lines_paren h h1
        have hs2 : (⟨#[40]⟩ ++ s ++ ⟨#[41]⟩ : ByteArray).data.toList = 40 :: (s.data.toList ++ [41]) := by simp
        rw [← hs2] at h2
        have hsz : s.data.toList.length = s.size := by simp
        have hsz2 : (⟨#[40]⟩ ++ s ++ ⟨#[41]⟩ : ByteArray).data.toList.length ≤ 65536 := by rw [hs2]; simp; omega
        have htm := tame_line h (by omega) (List.mem_singleton.2 rfl) 1
        have htu := tame_line h2 hsz2 (List.mem_singleton.2 rfl) 1
        have hus : (⟨0, 7, [40], 0⟩ :: (ps.map (Piece.right 1) ++ tail) : List Piece).map (Piece.tk 1) = (Piece.tk 1 ⟨0, 7, [40], 0⟩) :: (ps.map (Piece.tk 1)).map Tk6.on ++ tail.map (Piece.tk 1) := by
          rw [List.map_cons, List.map_append, right_on]
          rfl
        obtain ⟨r, hr⟩ := erun_all (ps.map (Piece.tk 1)) _ (.bound 1) 0 0 [] (Nat.zero_le _) (Nat.le_refl _)
        rcases r with ⟨j, ns⟩ | ⟨j, cd⟩
        · have hj := (erun_far hr (Nat.zero_le _)).1
          by_cases hjl : j < (ps.map (Piece.tk 1)).length
          · exact parens_more s ps _ _ _ j ns w hg (by omega) h h2 htm htu rfl rfl hr hjl
          · obtain rfl : j = (ps.map (Piece.tk 1)).length := by omega
            have hpar := erun_paren (p := Piece.tk 1 ⟨0, 7, [40], 0⟩) (tail := tail.map (Piece.tk 1)) hr (by rw [first_eq]; rfl) (by
              rcases ht with rfl | rfl
              · exact .inl rfl
              · exact .inr ⟨_, rfl, by rw [isM_eq]; rfl, by rw [tight_eq]; rfl⟩)
            rw [← hus] at hpar
            rcases hpar with ⟨e, c, hc, hu⟩ | hu
            · exact parens_deep s ps _ _ _ ns e c w hg (by omega) h h2 htm htu rfl rfl hr hu (by omega)
            · refine parens_good s ps _ _ _ ns w hg (by omega) h h2 htm htu rfl rfl hr hu (fun n hn => ?_)
              obtain ⟨t, htt, he⟩ := erun_cols hr (fun n hn => nomatch hn) _ _ rfl n hn
              obtain ⟨p, hp, rfl⟩ := List.mem_map.1 htt
              have := hat p hp
              rw [he]
              show 0 ≤ (p.at_ : Int) + 1 ∧ (p.at_ : Int) + 1 ≤ 100000
              omega
        · exact parens_fell s ps _ _ _ j cd w hg (by omega) h h2 htm htu rfl rfl hr
      · exact parens_many s all w hg (by omega) h h1
end Go.Proofs.YtbhfblogjlpnlaaDoor
