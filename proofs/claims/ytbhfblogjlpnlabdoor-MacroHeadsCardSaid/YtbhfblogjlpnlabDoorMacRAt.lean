/-
  The contracts of the reference's At, and of its Same at two macros of one name, the same parameters and no lines: true. Conditions: tokens and parameters lie in the memory.
-/
import Derived.Test.YtbhfblogjlpnlabDoorMacOurs
import Derived.Test.YtbhfblogjlpnlabDoorMacSame
import Derived.Test.YtbhfblogjlpnlabDoorMacComma
namespace Go.Proofs.YtbhfblogjlpnlabDoor
open Go.RowKit

set_option maxRecDepth 100000 in
set_option maxHeartbeats 4000000 in
theorem rat_is (ts : List Tk6) (v : Value) (i : Nat) (c : Int) (w : World) (hv : Toks w v ts) (hn : ts.length ≤ 100000) :
    Calls Tryd.prog 44 #[v, .int .i64 i, .int .i64 c] w fun e w' => e = .returned (.agg #[.int .i64 (placeAt ts i).1, .int .i64 (placeAt ts i).2, .int .i64 c]) ∧ Below w.heap.size w w' := by
  obtain ⟨A, cp, rfl, hc, hcm, hcell⟩ := hv.form
  have HCELL := Lib.hid hcell
  have HBA : Hid (∀ o, Below w.heap.size w (w.alloc o)) := Lib.hid (fun o => (Below.refl _ _).alloc (Nat.le_refl _) o)
  clear hcell hv
  rcases Nat.eq_zero_or_pos ts.length with h0 | h0
  · obtain rfl := List.eq_nil_of_length_eq_zero h0
    have hpl : placeAt ([] : List Tk6) i = (0, 0) := by unfold placeAt; simp
    rw [hpl]
    have h1 : ([] : List Tk6).length = 0 := rfl
    rw [h1]
    clear h0 HCELL hpl hc hn
    go_enter Tryd.func44, Tryd.ntmps44
    go_wp2_with fail
    exact bodyPost_ret (v := .agg #[.int .i64 0, .int .i64 0, .int .i64 c]) (by simp [results, Tryd.results44, go_sem]) rfl ⟨rfl, HBA.out _⟩
  · have hz : ((ts.length : Int) == 0) = false := beq_eq_false_iff_ne.2 (by omega)
    by_cases hlt : i < ts.length
    · have hki : ¬ (ts.length : Int) ≤ i := by omega
      have hki2 : (i : Int) < ts.length := by omega
      have hkc : (i : Int) < cp := by omega
      obtain ⟨t, ht⟩ : ∃ t, ts[i]? = some t := ⟨_, List.getElem?_eq_getElem hlt⟩
      have hpl : placeAt ts i = (t.line, t.col) := by unfold placeAt; rw [ht]
      rw [hpl]
      obtain ⟨b, o, rfl, hcs⟩ := HCELL.out i t ht
      have e1 := fun o' => (hcs _ (HBA.out o')).2.1
      have e2 := fun o' => (hcs _ (HBA.out o')).2.2.1
      clear hcs HCELL hpl ht
      go_enter Tryd.func44, Tryd.ntmps44
      go_wp2_with fail
      go_region
      all_goals (try go_wp2_with fail)
      all_goals exact bodyPost_ret (v := .agg #[.int .i64 t.line, .int .i64 t.col, .int .i64 c]) (by simp [results, Tryd.results44, go_sem]) rfl ⟨rfl, by first | exact (HBA.out _).drew | exact HBA.out _⟩
    · have hki : (ts.length : Int) ≤ i := by omega
      obtain ⟨n, hn2⟩ : ∃ n, ts.length = n + 1 := ⟨ts.length - 1, by omega⟩
      obtain ⟨t, ht⟩ : ∃ t, ts[n]? = some t := ⟨_, List.getElem?_eq_getElem (by omega)⟩
      have hpl : placeAt ts i = (t.line, t.col) := by
        unfold placeAt
        rw [List.getElem?_eq_none (by omega), List.getLast?_eq_getElem?, hn2, Nat.add_sub_cancel, ht]
      rw [hpl]
      obtain ⟨b, o, rfl, hcs⟩ := HCELL.out n t ht
      have e1 := fun o' => (hcs _ (HBA.out o')).2.1
      have e2 := fun o' => (hcs _ (HBA.out o')).2.2.1
      have hnb : (n : Int) + 1 ≤ 100000 := by omega
      have q0 : ((n : Int) + 1 == 0) = false := beq_eq_false_iff_ne.2 (by omega)
      have hkn : (n : Int) + 1 ≤ i := by omega
      have hnc : (n : Int) < cp := by omega
      rw [hn2]
      clear hcs HCELL hpl ht h0 hn2 hlt hn hz hki hc
      go_enter Tryd.func44, Tryd.ntmps44
      go_wp2_with fail
      go_region
      all_goals (try go_wp2_with fail)
      all_goals exact bodyPost_ret (v := .agg #[.int .i64 t.line, .int .i64 t.col, .int .i64 c]) (by simp [results, Tryd.results44, go_sem]) rfl ⟨rfl, by first | exact (HBA.out _).drew | exact HBA.out _⟩

set_option maxRecDepth 100000 in
set_option maxHeartbeats 8000000 in
theorem msame_is (ps : List HPar) (nm : ByteArray) (v1 v2 : Value) (w : World) (hn : ps.length ≤ 100000) (hn2 : ∀ p ∈ ps, p.dflt.length ≤ 100000) (h1 : Pars w v1 ps) (h2 : Pars w v2 ps) :
    Calls Tryd.prog 18 #[.agg #[.string nm, v1, .slice none 0 0], .agg #[.string nm, v2, .slice none 0 0]] w fun e w' => e = .returned (.bool true) ∧ Below w.heap.size w w' := by
  obtain ⟨A1, c1, rfl, hc1, _, hr1⟩ := h1.form
  obtain ⟨A2, c2, rfl, hc2, _, hr2⟩ := h2.form
  obtain ⟨wB, hwB⟩ : ∃ wB, (w.alloc (.cells #[.string nm, .slice A1 ps.length c1, .slice none 0 0] 46)).alloc (.cells #[.string nm, .slice A2 ps.length c2, .slice none 0 0] 46) = wB := ⟨_, rfl⟩
  have hMb : Blk wB w.heap.size 46 #[.string nm, .slice A1 ps.length c1, .slice none 0 0] := by rw [← hwB]; exact (Blk.new _ _ _).alloc _
  have hNb : Blk wB (w.heap.size + 1) 46 #[.string nm, .slice A2 ps.length c2, .slice none 0 0] := by rw [← hwB]; have := Blk.new (w.alloc (.cells #[.string nm, .slice A1 ps.length c1, .slice none 0 0] 46)) 46 #[.string nm, .slice A2 ps.length c2, .slice none 0 0]; simpa using this
  have hBb : Below w.heap.size w wB := by rw [← hwB]; exact ((Below.refl _ _).alloc (Nat.le_refl _) _).alloc (by simp) _
  have HWB := Lib.hid hwB
  have HMB := Lib.hid hMb
  have HNB := Lib.hid hNb
  have HBB := Lib.hid hBb
  have HR1 := Lib.hid hr1
  have HR2 := Lib.hid hr2
  have HN2 := Lib.hid hn2
  have HSM := Lib.hid (rows_same [] (.slice none 0 0) (.slice none 0 0) wB (by decide) (fun p hp => by cases hp) (.inl ⟨none, 0, rfl, Nat.zero_le _, rfl⟩) (.inl ⟨none, 0, rfl, Nat.zero_le _, rfl⟩))
  have hnes : (nm.toList != nm.toList) = false := by simp
  clear h1 h2 hwB hMb hNb hBb hr1 hr2 hn2
  go_enter Tryd.func18, Tryd.ntmps18
  go_wp2_with fail
  rw [HWB.out]
  refine HSM.out.mono ?_
  rintro e w1 ⟨rfl, hb1⟩
  have HB1 := Lib.hid hb1
  clear hb1
  go_wp2_with fail
  go_loopw [5] (fun iv wr => ∃ k : Nat, k ≤ ps.length ∧ iv = .int .i64 k ∧ Hid (Below wB.heap.size wB wr)) (fun iv _ => ps.length - (intOf iv).toNat)
  case atStart => exact ⟨0, Nat.zero_le _, rfl, HB1⟩
  case round =>
    obtain ⟨k, hk, rfl, HX⟩ := hrel
    have m1 : wr.cell? ⟨w.heap.size, 1, none⟩ = some (.slice A1 ps.length c1) := (HMB.out.below HX.out HMB.out.lt).cell 1
    have n1 : wr.cell? ⟨w.heap.size + 1, 1, none⟩ = some (.slice A2 ps.length c2) := (HNB.out.below HX.out HNB.out.lt).cell 1
    have HBW : Hid (Below w.heap.size w wr) := Lib.hid (HBB.out.trans (HX.out.mono HBB.out.size))
    by_cases hkl : k < ps.length
    · have hki : (k : Int) < ps.length := by omega
      have hkc1 : (k : Int) < c1 := by omega
      have hkc2 : (k : Int) < c2 := by omega
      have hkb : (k : Int) ≤ 100000 := by omega
      obtain ⟨p, hpk⟩ : ∃ p, ps[k]? = some p := ⟨_, List.getElem?_eq_getElem hkl⟩
      obtain ⟨b1, o1, d1, rfl, hd1, hq1⟩ := HR1.out k p hpk
      obtain ⟨b2, o2, d2, rfl, hd2, hq2⟩ := HR2.out k p hpk
      obtain ⟨D1, x1, rfl, -⟩ := hd1.form
      obtain ⟨D2, x2, rfl, -⟩ := hd2.form
      obtain ⟨e0, e1, e2⟩ := hq1 wr HBW.out
      obtain ⟨f0, f1, f2⟩ := hq2 wr HBW.out
      have hpn : (p.name.toList != p.name.toList) = false := by simp
      have hpb : (p.has != p.has) = false := by simp
      have hpl := HN2.out p (List.mem_of_getElem? hpk)
      have HTS : Hid (∀ W, Below wr.heap.size wr W → Calls Tryd.prog 29 #[.slice D1 p.dflt.length x1, .slice D2 p.dflt.length x2] W fun e w' => e = .returned (.bool true) ∧ Below wr.heap.size wr w') := Lib.hid (fun W hW => (tokens_same p.dflt _ _ W (by omega) (hd1.below (HBW.out.trans (hW.mono HBW.out.size))) (hd2.below (HBW.out.trans (hW.mono HBW.out.size)))).mono (by
        rintro e w' ⟨he, hb⟩
        exact ⟨he, hW.trans (hb.mono hW.size)⟩))
      have HUP := Lib.hid (fun W (hW : Below wr.heap.size wr W) => (⟨(HMB.out.below (HX.out.trans (hW.mono HX.out.size)) HMB.out.lt).cell 1, (HNB.out.below (HX.out.trans (hW.mono HX.out.size)) HNB.out.lt).cell 1, hq1 W (HBW.out.trans (hW.mono HBW.out.size)), hq2 W (HBW.out.trans (hW.mono HBW.out.size))⟩ : W.cell? ⟨w.heap.size, 1, none⟩ = some (.slice (some ⟨b1, o1, none⟩) ps.length c1) ∧ W.cell? ⟨w.heap.size + 1, 1, none⟩ = some (.slice (some ⟨b2, o2, none⟩) ps.length c2) ∧ (W.cell? ⟨b1, o1 + k * 3, none⟩ = some (.string p.name) ∧ W.cell? ⟨b1, o1 + k * 3 + 1, none⟩ = some (.bool p.has) ∧ W.cell? ⟨b1, o1 + k * 3 + 2, none⟩ = some (.slice D1 p.dflt.length x1)) ∧ W.cell? ⟨b2, o2 + k * 3, none⟩ = some (.string p.name) ∧ W.cell? ⟨b2, o2 + k * 3 + 1, none⟩ = some (.bool p.has) ∧ W.cell? ⟨b2, o2 + k * 3 + 2, none⟩ = some (.slice D2 p.dflt.length x2)))
      clear hpk hd1 hd2 hq1 hq2
      go_wp2_with fail
      go_region_held3 (fun W => W.cell? ⟨w.heap.size, 1, none⟩ = some (.slice (some ⟨b1, o1, none⟩) ps.length c1) ∧ W.cell? ⟨w.heap.size + 1, 1, none⟩ = some (.slice (some ⟨b2, o2, none⟩) ps.length c2) ∧ W.cell? ⟨b1, o1 + k * 3, none⟩ = some (.string p.name) ∧ W.cell? ⟨b1, o1 + k * 3 + 1, none⟩ = some (.bool p.has) ∧ W.cell? ⟨b1, o1 + k * 3 + 2, none⟩ = some (.slice D1 p.dflt.length x1) ∧ W.cell? ⟨b2, o2 + k * 3, none⟩ = some (.string p.name) ∧ W.cell? ⟨b2, o2 + k * 3 + 1, none⟩ = some (.bool p.has) ∧ W.cell? ⟨b2, o2 + k * 3 + 2, none⟩ = some (.slice D2 p.dflt.length x2) ∧ Below wr.heap.size wr W)
        (first | exact ⟨m1, n1, e0, e1, e2, f0, f1, f2, Below.refl _ _⟩ | exact ⟨m1, n1, e0, e1, e2, f0, f1, f2, (Below.refl _ _).drew⟩ | (go_split_ands; exact ⟨by assumption, by assumption, by assumption, by assumption, by assumption, by assumption, by assumption, by assumption, by assumption⟩) | go_keep)
        (first | (go_at_call 29; go_split_ands; refine (HTS.out _ (by assumption)).mono ?_; rintro e w2 ⟨rfl, hb2⟩; obtain ⟨y1, y2, ⟨y3, y4, y5⟩, y6, y7, y8⟩ := HUP.out w2 hb2))
      all_goals
        have HX2 := Lib.hid (HX.out.trans (hb2.mono HX.out.size))
        go_wp2_with fail
        go_roundw
        case rel => exact ⟨k + 1, by omega, by go_num, HX2⟩
        case measure => simp [intOf]; omega
    · obtain rfl : k = ps.length := by omega
      go_wp2_with fail
      go_ret
      exact ⟨rfl, HBW.out⟩
end Go.Proofs.YtbhfblogjlpnlabDoor
