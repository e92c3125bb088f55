/-
  The contracts of the reference's two, at, opens and deep. Conditions: the tokens lie in the memory; so does the stack.
-/
import Derived.Test.YtbhfblogjlpnlaaDoorExRLeaf
import Derived.Test.YtbhfblogjlpnlaaDoorRxLines
namespace Go.Proofs.YtbhfblogjlpnlaaDoor
open Go.RowKit

def mk9 : Nat → ByteArray
  | 0 => ⟨#[43]⟩
  | 1 => ⟨#[45]⟩
  | 2 => ⟨#[42]⟩
  | 3 => ⟨#[47]⟩
  | 4 => ⟨#[60, 60]⟩
  | 5 => ⟨#[62, 62]⟩
  | 6 => ⟨#[38]⟩
  | 7 => ⟨#[94]⟩
  | 8 => ⟨#[124]⟩
  | _ => ⟨#[]⟩
def hw9 : Nat → Int
  | 0 => 5
  | 1 => 5
  | 2 => 6
  | 3 => 6
  | 4 => 4
  | 5 => 4
  | 6 => 3
  | 7 => 2
  | 8 => 1
  | _ => 0
/-- The kind that two answers. -/
def Tk6.kind2 (t : Tk6) : Int := if 0 < t.tight then twoKind t.text else 0
theorem mk9_list (k : Nat) : (mk9 k).toList = (mk9 k).data.toList := ByteArray.toList_eq _
theorem two_hit {t : Tk6} {k : Nat} (hk : k < 9) (h7 : t.kind = 7) (h : (t.text.toList == (mk9 k).toList) = true) : (t.tight : Int) = hw9 k ∧ t.kind2 = 9 + (k : Int) := by
  have he : t.text.toList = (mk9 k).data.toList := by rw [eq_of_beq h, mk9_list]
  have ht : (t.tight : Int) = hw9 k ∧ twoKind t.text = 9 + (k : Int) ∧ 0 < t.tight := by
    unfold Tk6.tight twoKind isT
    rw [if_pos h7, he]
    rcases (show k = 0 ∨ k = 1 ∨ k = 2 ∨ k = 3 ∨ k = 4 ∨ k = 5 ∨ k = 6 ∨ k = 7 ∨ k = 8 by omega) with rfl | rfl | rfl | rfl | rfl | rfl | rfl | rfl | rfl <;> exact ⟨rfl, rfl, by decide⟩
  refine ⟨ht.1, ?_⟩
  unfold Tk6.kind2
  rw [if_pos ht.2.2, ht.2.1]
theorem two_miss {t : Tk6} (h : t.kind = 7 → ∀ j, j < 9 → (t.text.toList == (mk9 j).toList) = false) : t.tight = 0 ∧ t.kind2 = 0 := by
  have h0 : t.tight = 0 := by
    unfold Tk6.tight isT
    split
    · rename_i h7
      have hj := fun j hj => by
        have := h h7 j hj
        rwa [mk9_list] at this
      have e0 : (t.text.toList == [43]) = false := hj 0 (by decide)
      have e1 : (t.text.toList == [45]) = false := hj 1 (by decide)
      have e2 : (t.text.toList == [42]) = false := hj 2 (by decide)
      have e3 : (t.text.toList == [47]) = false := hj 3 (by decide)
      have e4 : (t.text.toList == [60, 60]) = false := hj 4 (by decide)
      have e5 : (t.text.toList == [62, 62]) = false := hj 5 (by decide)
      have e6 : (t.text.toList == [38]) = false := hj 6 (by decide)
      have e7 : (t.text.toList == [94]) = false := hj 7 (by decide)
      have e8 : (t.text.toList == [124]) = false := hj 8 (by decide)
      simp only [e0, e1, e2, e3, e4, e5, e6, e7, e8, Bool.or_self, Bool.false_eq_true, if_false]
    · rfl
  refine ⟨h0, ?_⟩
  unfold Tk6.kind2
  rw [if_neg (by omega)]

set_option maxRecDepth 100000 in
set_option maxHeartbeats 4000000 in
theorem rtwo_is (t : Tk6) (w : World) : Calls Tryd.prog 33 #[t.val] w fun e w' => e = .returned (.tuple #[.int .i64 (t.tight : Int), .int .i64 t.kind2]) ∧ Below w.heap.size w w' := by
  obtain ⟨km, kh⟩ := blk3 w (.cells #[.int .i64 t.kind, .int .i64 t.line, .int .i64 t.col, .string t.text, .int .u32 t.num, .int .i64 t.spare] 39) 9 3 #[.string ⟨#[43]⟩, .string ⟨#[45]⟩, .string ⟨#[42]⟩, .string ⟨#[47]⟩, .string ⟨#[60, 60]⟩, .string ⟨#[62, 62]⟩, .string ⟨#[38]⟩, .string ⟨#[94]⟩, .string ⟨#[124]⟩] #[.int .i64 5, .int .i64 5, .int .i64 6, .int .i64 6, .int .i64 4, .int .i64 4, .int .i64 3, .int .i64 2, .int .i64 1]
  have kt := ((Blk.new w 39 #[.int .i64 t.kind, .int .i64 t.line, .int .i64 t.col, .string t.text, .int .u32 t.num, .int .i64 t.spare]).alloc (.cells #[.string ⟨#[43]⟩, .string ⟨#[45]⟩, .string ⟨#[42]⟩, .string ⟨#[47]⟩, .string ⟨#[60, 60]⟩, .string ⟨#[62, 62]⟩, .string ⟨#[38]⟩, .string ⟨#[94]⟩, .string ⟨#[124]⟩] 9)).alloc (.cells #[.int .i64 5, .int .i64 5, .int .i64 6, .int .i64 6, .int .i64 4, .int .i64 4, .int .i64 3, .int .i64 2, .int .i64 1] 3)
  have HBA := Lib.hid (below3 w (.cells #[.int .i64 t.kind, .int .i64 t.line, .int .i64 t.col, .string t.text, .int .u32 t.num, .int .i64 t.spare] 39) (.cells #[.string ⟨#[43]⟩, .string ⟨#[45]⟩, .string ⟨#[42]⟩, .string ⟨#[47]⟩, .string ⟨#[60, 60]⟩, .string ⟨#[62, 62]⟩, .string ⟨#[38]⟩, .string ⟨#[94]⟩, .string ⟨#[124]⟩] 9) (.cells #[.int .i64 5, .int .i64 5, .int .i64 6, .int .i64 6, .int .i64 4, .int .i64 4, .int .i64 3, .int .i64 2, .int .i64 1] 3))
  go_enter Tryd.func33, Tryd.ntmps33
  go_wp2_with fail
  generalize (((w.alloc (.cells #[.int .i64 t.kind, .int .i64 t.line, .int .i64 t.col, .string t.text, .int .u32 t.num, .int .i64 t.spare] 39)).alloc (.cells #[.string ⟨#[43]⟩, .string ⟨#[45]⟩, .string ⟨#[42]⟩, .string ⟨#[47]⟩, .string ⟨#[60, 60]⟩, .string ⟨#[62, 62]⟩, .string ⟨#[38]⟩, .string ⟨#[94]⟩, .string ⟨#[124]⟩] 9)).alloc (.cells #[.int .i64 5, .int .i64 5, .int .i64 6, .int .i64 6, .int .i64 4, .int .i64 4, .int .i64 3, .int .i64 2, .int .i64 1] 3)) = wA at kt km kh HBA ⊢
  have HC : Hid (∀ W, Below wA.heap.size wA W → W.cell? ⟨w.heap.size, 0, none⟩ = some (.int .i64 t.kind) ∧ W.cell? ⟨w.heap.size, 3, none⟩ = some (.string t.text) ∧ ∀ k, k < 9 → W.cell? ⟨w.heap.size + 1, k, none⟩ = some (.string (mk9 k)) ∧ W.cell? ⟨w.heap.size + 1 + 1, k, none⟩ = some (.int .i64 (hw9 k))) := Lib.hid (fun W hW => by
    have k1 := km.below hW km.lt
    have k2 := kh.below hW kh.lt
    have k0 := kt.below hW kt.lt
    refine ⟨k0.cell 0, k0.cell 3, fun k hk => ⟨(k1.cell k).trans ?_, (k2.cell k).trans ?_⟩⟩
    all_goals rcases (show k = 0 ∨ k = 1 ∨ k = 2 ∨ k = 3 ∨ k = 4 ∨ k = 5 ∨ k = 6 ∨ k = 7 ∨ k = 8 by omega) with rfl | rfl | rfl | rfl | rfl | rfl | rfl | rfl | rfl <;> rfl)
  clear kt km kh
  generalize w.heap.size + 1 + 1 = g2 at HC ⊢
  generalize w.heap.size + 1 = g1 at HC ⊢
  go_loopw [6] (fun i wr => ∃ k : Nat, k ≤ 9 ∧ i = .int .i64 k ∧ Hid (t.kind = 7 → ∀ j, j < k → (t.text.toList == (mk9 j).toList) = false) ∧ Hid (Below wA.heap.size wA wr)) (fun i _ => 9 - (intOf i).toNat)
  case atStart => exact ⟨0, by decide, rfl, Lib.hid (fun _ j h => by omega), Lib.hid (Below.refl _ _)⟩
  case round =>
    obtain ⟨k, hk, rfl, HN, HX⟩ := hrel
    by_cases hlt : k < 9
    · have hki : (k : Int) < 9 := by omega
      obtain ⟨s0, s3, hcc⟩ := HC.out wr HX.out
      obtain ⟨m0, h0⟩ := hcc k hlt
      have HDN : Hid (∀ n, Below wr.heap.size wr (wr.drewN n)) := Lib.hid (fun n => bdrew (Below.refl _ _))
      clear hcc
      by_cases h7 : t.kind = 7
      · have k7 : (t.kind == 7) = true := by rw [h7]; rfl
        cases hm : (t.text.toList == (mk9 k).toList) with
        | true =>
          have HH := Lib.hid (two_hit hlt h7 hm)
          clear h7
          go_wp2_with fail
          go_quiet (fail)
          generalize hq : wr.drewN _ = wq
          have hbq : Below wr.heap.size wr wq := hq ▸ HDN.out _
          have HBQ := Lib.hid (HX.out.trans (hbq.mono HX.out.size))
          obtain ⟨-, -, hcc⟩ := HC.out wq HBQ.out
          obtain ⟨-, h1⟩ := hcc k hlt
          clear hq HDN hbq hcc s0 s3 m0 h0
          go_wp2_with fail
          exact bodyPost_ret (v := .tuple #[.int .i64 (hw9 k), .int .i64 (9 + (k : Int))]) (by simp [results, Tryd.results33, go_sem]; done) rfl ⟨by rw [HH.out.1, HH.out.2], HBA.out.trans (HBQ.out.mono HBA.out.size)⟩
        | false =>
          have HN2 : Hid (t.kind = 7 → ∀ j, j < k + 1 → (t.text.toList == (mk9 j).toList) = false) := Lib.hid (fun h j hj => by
            rcases Nat.lt_or_ge j k with h1 | h1
            · exact HN.out h j h1
            · obtain rfl : j = k := by omega
              exact hm)
          clear h7
          go_wp2_with fail
          go_quiet (fail)
          generalize hq : wr.drewN _ = wq
          have hbq : Below wr.heap.size wr wq := hq ▸ HDN.out _
          have HBQ := Lib.hid (HX.out.trans (hbq.mono HX.out.size))
          clear hq HDN hbq s0 s3 m0 h0
          go_wp2_with fail
          go_roundw
          case rel => exact ⟨k + 1, by omega, by go_num, HN2, HBQ⟩
          case measure => simp [intOf]; omega
      · have k7 : (t.kind == 7) = false := beq_eq_false_iff_ne.2 h7
        have HN2 : Hid (t.kind = 7 → ∀ j, j < k + 1 → (t.text.toList == (mk9 j).toList) = false) := Lib.hid (fun h => absurd h h7)
        clear h7
        go_wp2_with fail
        go_quiet (fail)
        generalize hq : wr.drewN _ = wq
        have hbq : Below wr.heap.size wr wq := hq ▸ HDN.out _
        have HBQ := Lib.hid (HX.out.trans (hbq.mono HX.out.size))
        clear hq HDN hbq s0 s3 m0 h0
        go_wp2_with fail
        go_roundw
        case rel => exact ⟨k + 1, by omega, by go_num, HN2, HBQ⟩
        case measure => simp [intOf]; omega
    · obtain rfl : k = 9 := by omega
      have HH := Lib.hid (two_miss HN.out)
      go_wp2_with fail
      exact bodyPost_ret (v := .tuple #[.int .i64 0, .int .i64 0]) (by simp [results, Tryd.results33, go_sem]; done) rfl ⟨by rw [HH.out.1, HH.out.2]; rfl, HBA.out.trans (HX.out.mono HBA.out.size)⟩

/-- A place that is no more than the last one. -/
theorem place_last {ts : List Tk6} {i : Nat} (h : ts.length ≤ i) : placeAt ts i = placeAt ts ts.length := by
  unfold placeAt
  rw [List.getElem?_eq_none h, List.getElem?_eq_none (Nat.le_refl _)]

set_option maxRecDepth 100000 in
set_option maxHeartbeats 4000000 in
theorem rat_is (ts : List Tk6) (vt : Value) (i : Nat) (c : Int) (w : World) (hn : ts.length ≤ 100000) (hi : i ≤ 100001) (hv : Toks w vt ts) : Calls Tryd.prog 29 #[vt, .int .i64 i, .int .i64 c] w fun e w' => e = .returned (.agg #[.slice none 0 0, .slice none 0 0, .int .i64 (placeAt ts i).1, .int .i64 (placeAt ts i).2, .int .i64 c]) ∧ Below w.heap.size w w' := by
  obtain ⟨A, cp, rfl, hc, hcm, hcell⟩ := hv.form
  rcases Nat.eq_zero_or_pos ts.length with h0 | h0
  · obtain rfl := List.eq_nil_of_length_eq_zero h0
    have HP : placeAt ([] : List Tk6) i = (0, 0) := rfl
    rw [HP]
    have h1 : ([] : List Tk6).length = 0 := rfl
    rw [h1]
    have HBA : Hid (∀ o, Below w.heap.size w (w.alloc o)) := Lib.hid (fun o => (Below.refl _ _).alloc (Nat.le_refl _) o)
    clear h0 hv hcell hn hi
    go_enter Tryd.func29, Tryd.ntmps29
    go_wp2_with fail
    exact bodyPost_ret (v := .agg #[.slice none 0 0, .slice none 0 0, .int .i64 0, .int .i64 0, .int .i64 c]) (by simp [results, Tryd.results29, go_sem]; done) rfl ⟨rfl, HBA.out _⟩
  · obtain ⟨k, hk, hkl, hpl⟩ : ∃ k, (k = i ∧ i < ts.length ∨ k + 1 = ts.length ∧ ts.length ≤ i) ∧ k < ts.length ∧ placeAt ts i = placeAt ts k := by
      by_cases h : i < ts.length
      · exact ⟨i, .inl ⟨rfl, h⟩, h, rfl⟩
      · refine ⟨ts.length - 1, .inr ⟨by omega, by omega⟩, by omega, ?_⟩
        rw [place_last (by omega)]
        unfold placeAt
        rw [List.getElem?_eq_none (Nat.le_refl _), List.getLast?_eq_getElem?, List.getElem?_eq_getElem (by omega)]
    obtain ⟨t, ht⟩ : ∃ t, ts[k]? = some t := ⟨_, List.getElem?_eq_getElem hkl⟩
    have hpl2 : placeAt ts i = (t.line, t.col) := by rw [hpl]; unfold placeAt; rw [ht]
    rw [hpl2]
    obtain ⟨b, o, rfl, hcs⟩ := hcell k t ht
    have hup : ∀ o', Below w.heap.size w (w.alloc o') := fun o' => (Below.refl _ _).alloc (Nat.le_refl _) o'
    have e1 := fun o' => (hcs _ (hup o')).2.1
    have e2 := fun o' => (hcs _ (hup o')).2.2.1
    have HBA := Lib.hid hup
    have hkc : (k : Int) < cp := by omega
    have hkl2 : (k : Int) < ts.length := by omega
    clear hcs ht hpl hpl2 hcell hv hup
    rcases hk with ⟨rfl, hlt⟩ | ⟨hk1, hge⟩
    · have hki : ¬ (ts.length : Int) ≤ k := by omega
      have hz : ((ts.length : Int) == 0) = false := beq_eq_false_iff_ne.2 (by omega)
      go_enter Tryd.func29, Tryd.ntmps29
      go_wp2_with fail
      go_region
      all_goals (try go_wp2_with fail)
      all_goals exact bodyPost_ret (v := .agg #[.slice none 0 0, .slice none 0 0, .int .i64 t.line, .int .i64 t.col, .int .i64 c]) (by simp [results, Tryd.results29, go_sem]; done) rfl ⟨rfl, (HBA.out _).drew⟩
    · have hns : ts.length = k + 1 := hk1.symm
      have hkb : (k : Int) + 1 ≤ 100000 := by omega
      have hki : (k : Int) + 1 ≤ i := by omega
      have hz : ((k : Int) + 1 == 0) = false := beq_eq_false_iff_ne.2 (by omega)
      rw [hns]
      clear hk1 hge hkl h0 hns hc hcm hn hi hkl2
      go_enter Tryd.func29, Tryd.ntmps29
      go_wp2_with fail
      go_region
      all_goals (try go_wp2_with fail)
      all_goals exact bodyPost_ret (v := .agg #[.slice none 0 0, .slice none 0 0, .int .i64 t.line, .int .i64 t.col, .int .i64 c]) (by simp [results, Tryd.results29, go_sem]; done) rfl ⟨rfl, (HBA.out _).drew⟩
end Go.Proofs.YtbhfblogjlpnlaaDoor
