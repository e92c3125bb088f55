/-
  ExprTexts returns true: the walk. Conditions: the handle of the type error; the string's length is within the model's bound.
-/
import Derived.Test.YtbhfblogjlpnlaaDoorExRParse
import Derived.Test.YtbhfblogjlpnlaaDoorExSame
import Derived.Lib.SmallJoins
namespace Go.Proofs.YtbhfblogjlpnlaaDoor
open Go.RowKit

/-- []byte of a string. -/
theorem conv_str (W : World) (s : ByteArray) (hs : s.size ≤ maxLen) : ∃ (c : Nat) (wB : World), (convert 9 22 (.string s)).run Tryd.prog W = .ok (.slice (some ⟨W.heap.size, 0, none⟩) s.size c) wB ∧ s.size ≤ c ∧ c ≤ maxLen ∧ W.heap.size < wB.heap.size ∧ Below W.heap.size W wB ∧ ∀ j (hj : j < s.size), wB.cell? ⟨W.heap.size, 0 + j, none⟩ = some (.int .u8 ((s[j]'hj).toNat : Int)) := by
  refine ⟨_, _, Lib.run_convert_string_bytes (P := Tryd.prog) W 9 22 5 s Tryd.underlying9 Tryd.underlying22 Tryd.underlying5, grownCap_ge .., grownCap_le_maxLen _ _ _ _ hs, by rw [Lib.bytesWorld_size]; omega, Joins.below_bytesWorld _ _ _ _ (Nat.le_refl _), fun j hj => ?_⟩
  rw [Nat.zero_add, Lib.bytesWorld_cell W _ s j hj]
  have : s.data.toList.getD j 0 = s[j]'hj := by
    have h2 : j < s.data.toList.length := by simpa using hj
    rw [List.getD, List.getElem?_eq_getElem h2]
    rfl
  rw [this]

set_option maxRecDepth 100000 in
set_option maxHeartbeats 4000000 in
theorem texts_long (s : ByteArray) (w : World) (hg : Handle w) (hl : 300 < s.size) : Calls Tryd.prog 9 #[.string s] w fun e w' => e = .returned (.bool true) ∧ Below w.heap.size w w' := by
  have HAW := Lib.hid (eawake_any w hg)
  have hli : (300 : Int) < s.size := by omega
  clear hg
  go_enter Tryd.func9, Tryd.ntmps9
  go_wp2_with fail
  refine HAW.out.mono ?_
  rintro e w1 ⟨rfl, hb1⟩
  have HB1 := Lib.hid hb1
  clear hb1
  go_wp2_with fail
  go_ret
  exact ⟨rfl, HB1.out⟩

set_option maxRecDepth 100000 in
set_option maxHeartbeats 4000000 in
theorem texts_bad (s : ByteArray) (all : List (List Piece)) (l i : Nat) (cd : Int) (w : World) (hg : Handle w) (hl : s.size ≤ 300) (h : LinesR 0 (cut s.data.toList) all (some (l, i, cd))) : Calls Tryd.prog 9 #[.string s] w fun e w' => e = .returned (.bool true) ∧ Below w.heap.size w w' := by
  have HAW := Lib.hid (eawake_any w hg)
  have hli : ¬ (300 : Int) < s.size := by omega
  have hcd : (0 : Int) < cd := by have := (h.code _ _ _ rfl).2.2; omega
  have HLR := Lib.hid h
  clear hg h
  go_enter Tryd.func9, Tryd.ntmps9
  go_wp2_with fail
  refine HAW.out.mono ?_
  rintro e w1 ⟨rfl, hb1⟩
  obtain ⟨c, wB, hcv, hc1, hc2, hc3, hbB, hcell⟩ := conv_str w1 s (by unfold maxLen; omega)
  have HL := Lib.hid (lines_any s w1.heap.size 0 c all _ wB (by omega) hc1 hc2 HLR.out hc3 hcell)
  have HBB := Lib.hid (hb1.trans (hbB.mono hb1.size))
  clear hb1 hbB hcell hc1 hc2 hc3
  go_wp2_with fail
  refine HL.out.mono ?_
  rintro e w2 ⟨rfl, hb2⟩
  have HB2 := Lib.hid (HBB.out.trans (hb2.mono HBB.out.size))
  have HUP : Hid (∀ o, Below w.heap.size w (w2.alloc o)) := Lib.hid (fun o => HB2.out.alloc HB2.out.size o)
  clear hb2 hcv
  go_wp2_with fail
  go_ret
  exact ⟨rfl, HUP.out _⟩

set_option maxRecDepth 100000 in
set_option maxHeartbeats 8000000 in
theorem texts_good (s : ByteArray) (all : List (List Piece)) (w : World) (hg : Handle w) (hl : s.size ≤ 300) (h : LinesR 0 (cut s.data.toList) all none) : Calls Tryd.prog 9 #[.string s] w fun e w' => e = .returned (.bool true) ∧ Below w.heap.size w w' := by
  have HAW := Lib.hid (eawake_any w hg)
  have hli : ¬ (300 : Int) < s.size := by omega
  have HLR := Lib.hid h
  have HG := Lib.hid hg
  have HTM := Lib.hid (fun ps (hp : ps ∈ all) ln => tame_line h (by simp; omega) hp ln)
  have hal : all.length ≤ 400 := by have h1 := h.len.1; have h2 := cut_len s.data.toList; simp at h2; omega
  clear hg h
  go_enter Tryd.func9, Tryd.ntmps9
  go_wp2_with fail
  refine HAW.out.mono ?_
  rintro e w1 ⟨rfl, hb1⟩
  obtain ⟨c, wB, hcv, hc1, hc2, hc3, hbB, hcell⟩ := conv_str w1 s (by unfold maxLen; omega)
  have HL := Lib.hid (lines_any s w1.heap.size 0 c all none wB (by omega) hc1 hc2 HLR.out hc3 hcell)
  have HBB := Lib.hid (hb1.trans (hbB.mono hb1.size))
  clear hb1 hbB hcell hc1 hc2 hc3
  go_wp2_with fail
  refine HL.out.mono ?_
  rintro e w2 ⟨⟨v, us, rfl, hown, hlines⟩, hb2⟩
  have HB2 := Lib.hid (HBB.out.trans (hb2.mono HBB.out.size))
  have HUP : Hid (∀ o, Below w.heap.size w (w2.alloc o)) := Lib.hid (fun o => HB2.out.alloc HB2.out.size o)
  have HROW : Hid (∀ (k : Nat) (ps : List Piece), all[k]? = some ps → ∃ g cp u, v = .slice (some ⟨g, 0, none⟩) all.length cp ∧ all.length ≤ cp ∧ Toks w2 u (ps.map (Piece.tk ((k : Int) + 1))) ∧ ∀ W, Below w2.heap.size w2 W → W.cell? ⟨g, k, none⟩ = some u) := Lib.hid (fun k ps hk => by
    rcases hown.2 with ⟨_, h0⟩ | ⟨g, cap, cur, hv, hg, hh, hc, hm, _⟩
    · rw [List.eq_nil_of_length_eq_zero h0] at hk
      cases hk
    · obtain ⟨u, hu, _⟩ := hlines.2 k ps hk
      have hcl := hown.cells (g := g) (by rw [hv]; rfl) k u hu
      rw [addr0] at hcl
      exact ⟨g, cap, u, hv, hc, toks_line hlines hk hu, fun W hW => (hW.cell (p := ⟨g, k, none⟩) (Array.getElem?_eq_some_iff.1 hh).1).trans hcl⟩)
  obtain ⟨Av, cv, rfl⟩ := own_shape hown
  have HU2 : Hid (∀ o, Below w2.heap.size w2 (w2.alloc o)) := Lib.hid (fun o => (Below.refl _ _).alloc (Nat.le_refl _) o)
  clear hb2 hcv hown hlines
  go_wp2_with fail
  go_loopw [5] (fun i wr => ∃ k : Nat, k ≤ all.length ∧ i = .int .i64 k ∧ Hid (Below w2.heap.size w2 wr)) (fun i _ => all.length - (intOf i).toNat)
  case atStart => exact ⟨0, Nat.zero_le _, rfl, Lib.hid (HU2.out _)⟩
  case round =>
    obtain ⟨k, hk, rfl, HX⟩ := hrel
    have HWX := Lib.hid (HB2.out.trans (HX.out.mono HB2.out.size))
    by_cases hlt : k < all.length
    · have hki : (k : Int) < all.length := by omega
      have hkb : (k : Int) ≤ 400 := by omega
      obtain ⟨ps, hps⟩ : ∃ ps, all[k]? = some ps := ⟨_, List.getElem?_eq_getElem hlt⟩
      obtain ⟨g, cp, u, hvv, hcp, htk, hcell⟩ := HROW.out k ps hps
      injection hvv with hvv1 _ hvv3
      subst hvv1 hvv3
      have htm := HTM.out ps (List.mem_of_getElem? hps) ((k : Int) + 1)
      generalize ps.map (Piece.tk ((k : Int) + 1)) = ts at htk htm
      obtain ⟨At, ct, rfl, -⟩ := htk.form
      obtain ⟨r, hr⟩ := erun_all ts _ (.bound 1) 0 0 [] (Nat.zero_le _) (Nat.le_refl _)
      have HCE := Lib.hid hcell
      have HTK := Lib.hid htk
      have HTA := Lib.hid htm
      have HFAR := Lib.hid (erun_far hr (Nat.zero_le _))
      have HFEW := Lib.hid (erun_few hr)
      have hkc : (k : Int) < cv := by omega
      have r0 := hcell wr HX.out
      have HP := Lib.hid (parse_is ts _ r wr (HG.out.below HWX.out HG.out.pos) htm (htk.below HX.out) hr)
      have HRP := Lib.hid (fun W (hW : Below w2.heap.size w2 W) => rparse_is ts _ r W htm (htk.below hW) (mrun_of hr))
      clear hps htk htm hcell hr
      rcases r with ⟨j, ns⟩ | ⟨j, cd⟩
      · have hnl : ns.length ≤ 1000000 := by
          have h1 := HFEW.out _ _ rfl
          have h2 := HFAR.out
          have h3 := HTA.out.few
          simp only [EFar] at h2
          simp at h1
          omega
        have htl : (ts.drop j).length ≤ 1000000 := by have h3 := HTA.out.few; rw [List.length_drop]; omega
        have HNL := Lib.hid hnl
        have HTL := Lib.hid htl
        clear hnl htl HFAR HFEW
        go_wp2_with fail
        refine HP.out.mono ?_
        rintro e w3 ⟨vn, A3, c3, rfl, hown3, htr3, hb3⟩
        obtain ⟨An, cn, rfl⟩ := own_shape hown3
        have HN3 := Lib.hid (nds_of_own hown3)
        have HT3 := Lib.hid htr3
        have HX3 := Lib.hid (HX.out.trans (hb3.mono HX.out.size))
        have r1 := HCE.out w3 HX3.out
        clear hb3 hown3 htr3 r0 HP
        go_wp2_with fail
        refine (HRP.out w3 HX3.out).mono ?_
        rintro e w4 ⟨⟨vn4, A4, c4, rfl, hown4, htr4⟩, hb4⟩
        obtain ⟨An4, cn4, rfl⟩ := own_shape hown4
        have HN4 := Lib.hid (nds_of_own hown4)
        have HT4 := Lib.hid htr4
        have HB34 := Lib.hid hb4
        have HX4 := Lib.hid (HX3.out.trans (hb4.mono HX3.out.size))
        have ko := Blk.new w4 47 #[.slice An4 ns.length cn4, .slice A4 (ts.length - j) c4, .int .i64 0, .int .i64 0, .int .i64 0]
        have HU4 : Hid (∀ o, Below w4.heap.size w4 (w4.alloc o)) := Lib.hid (fun o => (Below.refl _ _).alloc (Nat.le_refl _) o)
        clear hb4 hown4 htr4 r1 HRP
        have HNS := Lib.hid (fun o => nodes_same ns (.slice An ns.length cn) (.slice An4 ns.length cn4) (w4.alloc o) HNL.out ((HN3.out.below HB34.out).below (HU4.out o)) (HN4.out.below (HU4.out o)))
        go_wp2_with fail
        refine (HNS.out _).mono ?_
        rintro e w5 ⟨rfl, hb5⟩
        have ko5 := ko.below hb5 ko.lt
        have HB5 := Lib.hid ((HU4.out _).trans (hb5.mono (HU4.out _).size))
        have x1 : w5.cell? ⟨w4.heap.size, 1, none⟩ = some (.slice A4 (ts.length - j) c4) := ko5.cell 1
        have HTS := Lib.hid (tokens_same (ts.drop j) (.slice A3 (ts.length - j) c3) (.slice A4 (ts.length - j) c4) w5 HTL.out ((HT3.out.below HB34.out).below HB5.out) (HT4.out.below HB5.out))
        clear hb5 ko
        go_wp2_with fail
        refine HTS.out.mono ?_
        rintro e w6 ⟨rfl, hb6⟩
        have ko6 := ko5.below hb6 ko5.lt
        have HB6 := Lib.hid (HB5.out.trans (hb6.mono HB5.out.size))
        obtain ⟨z0, z1, z2, z3, z4⟩ : w6.cell? ⟨w4.heap.size, 0, none⟩ = some (.slice An4 ns.length cn4) ∧ w6.cell? ⟨w4.heap.size, 1, none⟩ = some (.slice A4 (ts.length - j) c4) ∧ w6.cell? ⟨w4.heap.size, 2, none⟩ = some (.int .i64 0) ∧ w6.cell? ⟨w4.heap.size, 3, none⟩ = some (.int .i64 0) ∧ w6.cell? ⟨w4.heap.size, 4, none⟩ = some (.int .i64 0) := ⟨ko6.cell 0, ko6.cell 1, ko6.cell 2, ko6.cell 3, ko6.cell 4⟩
        have HEF := Lib.hid (efault_is .nilIface (.slice An4 ns.length cn4) (.slice A4 (ts.length - j) c4) 0 0 0 w6 (Lib.hid (fun W _ => (fault_nil W).mono fun e w' h => ⟨h.1, h.2⟩)))
        have HX6 := Lib.hid (HX4.out.trans (HB6.out.mono HX4.out.size))
        clear hb6 ko5 ko6 x1
        go_wp2_with fail
        refine HEF.out.mono ?_
        rintro e w7 ⟨rfl, hb7⟩
        have HX7 := Lib.hid (HX6.out.trans (hb7.mono HX6.out.size))
        clear hb7 z0 z1 z2 z3 z4
        go_wp2_with fail
        go_roundw
        case rel => exact ⟨k + 1, by omega, by go_num, HX7⟩
        case measure => simp [intOf]; omega
      · have hcd : cd = 6 ∨ cd = 14 := HFAR.out.2
        clear HFAR HFEW
        go_wp2_with fail
        refine HP.out.mono ?_
        rintro e w3 ⟨b, rfl, hbs, hbk, hb3⟩
        have HK3 := Lib.hid hbk
        have HX3 := Lib.hid (HX.out.trans (hb3.mono HX.out.size))
        have r1 := HCE.out w3 HX3.out
        clear hb3 hbs hbk r0 HP
        go_wp2_with fail
        refine (HRP.out w3 HX3.out).mono ?_
        rintro e w4 ⟨rfl, hb4⟩
        have HB34 := Lib.hid hb4
        have HX4 := Lib.hid (HX3.out.trans (hb4.mono HX3.out.size))
        generalize (placeAt ts j).1 = L at *
        generalize (placeAt ts j).2 = C at *
        have ko := Blk.new w4 47 #[.slice none 0 0, .slice none 0 0, .int .i64 L, .int .i64 C, .int .i64 cd]
        have HU4 : Hid (∀ o, Below w4.heap.size w4 (w4.alloc o)) := Lib.hid (fun o => (Below.refl _ _).alloc (Nat.le_refl _) o)
        clear hb4 r1 HRP
        have HNS := Lib.hid (fun o => nodes_same [] (.slice none 0 0) (.slice none 0 0) (w4.alloc o) (by decide) (.inl ⟨none, 0, rfl, rfl⟩) (.inl ⟨none, 0, rfl, rfl⟩))
        go_wp2_with fail
        refine (HNS.out _).mono ?_
        rintro e w5 ⟨rfl, hb5⟩
        have ko5 := ko.below hb5 ko.lt
        have HB5 := Lib.hid ((HU4.out _).trans (hb5.mono (HU4.out _).size))
        have x1 : w5.cell? ⟨w4.heap.size, 1, none⟩ = some (.slice none 0 0) := ko5.cell 1
        have HTS := Lib.hid (tokens_same [] (.slice none 0 0) (.slice none 0 0) w5 (by decide) (.inl ⟨none, 0, rfl, Nat.zero_le _, rfl⟩) (.inl ⟨none, 0, rfl, Nat.zero_le _, rfl⟩))
        clear hb5 ko
        go_wp2_with fail
        refine HTS.out.mono ?_
        rintro e w6 ⟨rfl, hb6⟩
        have ko6 := ko5.below hb6 ko5.lt
        have HB6 := Lib.hid (HB5.out.trans (hb6.mono HB5.out.size))
        obtain ⟨z0, z1, z2, z3, z4⟩ : w6.cell? ⟨w4.heap.size, 0, none⟩ = some (.slice none 0 0) ∧ w6.cell? ⟨w4.heap.size, 1, none⟩ = some (.slice none 0 0) ∧ w6.cell? ⟨w4.heap.size, 2, none⟩ = some (.int .i64 L) ∧ w6.cell? ⟨w4.heap.size, 3, none⟩ = some (.int .i64 C) ∧ w6.cell? ⟨w4.heap.size, 4, none⟩ = some (.int .i64 cd) := ⟨ko6.cell 0, ko6.cell 1, ko6.cell 2, ko6.cell 3, ko6.cell 4⟩
        have HX6 := Lib.hid (HX4.out.trans (HB6.out.mono HX4.out.size))
        have hk6 := (HK3.out.below HB34.out HK3.out.lt).below HB6.out (HK3.out.below HB34.out HK3.out.lt).lt
        have HEF := Lib.hid (efault_is (.iface 63 (.pointer (some ⟨b, 0, none⟩))) (.slice none 0 0) (.slice none 0 0) L C cd w6 (Lib.hid (fun W hW => fault_err b L C cd W (HG.out.below (HB2.out.trans ((HX6.out.trans (hW.mono HX6.out.size)).mono HB2.out.size)) HG.out.pos) (by omega) (by omega) (hk6.below hW hk6.lt))))
        clear hb6 ko5 ko6 x1 hk6
        go_wp2_with fail
        refine HEF.out.mono ?_
        rintro e w7 ⟨rfl, hb7⟩
        have HX7 := Lib.hid (HX6.out.trans (hb7.mono HX6.out.size))
        clear hb7 z0 z1 z2 z3 z4
        go_wp2_with fail
        go_roundw
        case rel => exact ⟨k + 1, by omega, by go_num, HX7⟩
        case measure => simp [intOf]; omega
    · obtain rfl : k = all.length := by omega
      go_wp2_with fail
      go_ret
      exact ⟨rfl, HWX.out⟩

theorem texts_law (s : ByteArray) (w : World) (hg : Handle w) : Calls Tryd.prog 9 #[.string s] w fun e w' => e = .returned (.bool true) ∧ Below w.heap.size w w' := by
  by_cases hl : 300 < s.size
  · exact texts_long s w hg hl
  · obtain ⟨all, err, h⟩ := lines_all (cut s.data.toList) 0
    cases err with
    | some x =>
      obtain ⟨l, i, cd⟩ := x
      exact texts_bad s all l i cd w hg (by omega) h
    | none => exact texts_good s all w hg (by omega) h
end Go.Proofs.YtbhfblogjlpnlaaDoor
