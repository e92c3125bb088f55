/-
  The law's own check that the program is awake answers true. Condition: the handle of the type error.
-/
import Derived.Test.YtccomiigdpfbpaaDoorAwake
import Derived.Deep.AppendLies
namespace Go.Proofs.YtccomiigdpfbpaaDoor
open Go.RowKit

theorem row_tok {w : World} {base : Nat} {u : Value} {s : ByteArray} {ln : Int} (h : w.ownsRow base 63 6 u 1 (allCells [⟨0, 1, s, 0⟩] ln)) : ∃ g c, u = .slice (some ⟨g, 0, none⟩) 1 c ∧ TokAt w g 0 1 ln 1 s 0 0 := by
  rcases h.2 with ⟨_, hn⟩ | ⟨g, cap, cur, rfl, hb, hg, hnc, hcm, hcs, ht⟩
  · exact absurd hn (by decide)
  · have hat : ∀ j, j < 6 → w.cell? ⟨g, j, none⟩ = (allCells [⟨0, 1, s, 0⟩] ln)[j]? := by
      intro j hj
      rw [cell_of_row w g j cur _ _ hg, ← ht, List.getElem?_take, if_pos (by omega)]
      simp
    exact ⟨g, cap, rfl, hat 0 (by omega), hat 1 (by omega), hat 2 (by omega), hat 3 (by omega), hat 4 (by omega), hat 5 (by omega)⟩

/-- The lines of the check. -/
noncomputable def awF (vs : List Value) : Lns where
  A i := match vs[i]? with | some (.slice A _ _) => A | _ => none
  len _ := 1
  cap i := match vs[i]? with | some (.slice _ _ c) => c | _ => 0
  K _ := 1
  L i := i + 1
  C _ := 1
  S := awName
  N _ := 0
  Sc _ := 0

theorem awF_in {w : World} {base b2 g cap : Nat} {vs : List Value} (hown : w.ownsRow b2 35 1 (.slice (some ⟨g, 0, none⟩) 6 cap) 6 vs) (hl : LinesAt w base vs awAll) : (awF vs).In w g 0 6 := by
  intro i hi
  have hp : awAll[i]? = some [⟨0, 1, awName i, 0⟩] := by
    rcases (show i = 0 ∨ i = 1 ∨ i = 2 ∨ i = 3 ∨ i = 4 ∨ i = 5 by omega) with rfl | rfl | rfl | rfl | rfl | rfl <;> rfl
  obtain ⟨u, hu, ho⟩ := hl.2 i _ hp
  obtain ⟨g', c, rfl, ht⟩ := row_tok ho
  have hA : (awF vs).A i = some ⟨g', 0, none⟩ := by show (match vs[i]? with | some (.slice A _ _) => A | _ => none) = _; rw [hu]
  have hc : (awF vs).cap i = c := by show (match vs[i]? with | some (.slice _ _ c) => c | _ => 0) = _; rw [hu]
  refine ⟨?_, fun _ => ⟨g', 0, hA, ht⟩⟩
  rw [hA, hc, Nat.zero_add, hown.cellAt i (by omega), hu]
  rfl

theorem awF_kind (vs : List Value) (i : Nat) : (awF vs).kind i = nameOf (awName i) := by
  show (if (1 : Nat) = 0 then 0 else kindOf 1 (awName i)) = _
  rw [if_neg (by decide)]
  unfold kindOf
  rw [if_pos rfl]
theorem awName_kinds : nameOf (awName 0) = 5 ∧ nameOf (awName 1) = 0 ∧ nameOf (awName 2) = 6 ∧ nameOf (awName 3) = 0 ∧ nameOf (awName 4) = 7 ∧ nameOf (awName 5) = 2 := by
  unfold nameOf
  simp only [ByteArray.toList_eq]
  exact ⟨rfl, rfl, rfl, rfl, rfl, rfl⟩

theorem awF_end0 (vs : List Value) : endSpec (awF vs) 6 0 = .ok 4 2 := by
  obtain ⟨k0, k1, k2, k3, k4, k5⟩ := awName_kinds
  unfold endSpec
  rw [if_neg (by decide)]
  have e0 : (awF vs).kind (Int.toNat 0) = 5 := (awF_kind vs 0).trans k0
  rw [e0, if_pos (by decide)]
  show endRun (awF vs) 6 0 1 [(5, -1)] = _
  rw [endRun_on (awF vs) 6 0 1 5 (-1) [] (5, -1) [] (by decide) (by rw [awF_kind, k1]; rfl)]
  rw [endRun_on (awF vs) 6 0 2 5 (-1) [] (5, 2) [] (by decide) (by rw [awF_kind, k2]; rfl)]
  rw [endRun_on (awF vs) 6 0 3 5 2 [] (5, 2) [] (by decide) (by rw [awF_kind, k3]; rfl)]
  rw [endRun_ok (awF vs) 6 0 4 5 2 [] (by decide) (by rw [awF_kind, k4]; rfl)]
  rfl
theorem awF_end5 (vs : List Value) : endSpec (awF vs) 6 5 = .bad 6 1 := by
  obtain ⟨k0, k1, k2, k3, k4, k5⟩ := awName_kinds
  unfold endSpec
  rw [if_neg (by decide)]
  have e0 : (awF vs).kind (Int.toNat 5) = 2 := (awF_kind vs 5).trans k5
  rw [e0, if_neg (by decide)]
  rfl

theorem eql_fault (w : World) : (binOp .eql 30 (.agg #[.int .i64 6, .int .i64 1, .int .i64 15]) (.agg #[.int .i64 6, .int .i64 1, .int .i64 15])).run Tryd.prog w = .ok (.bool true) w := by kernel_rfl

/-- The bytes of the check's source, as they are laid. -/
theorem awCells : ∀ j (hj : j < awSrc.size), (awSrc.data.toList.map fun b => Value.int .u8 (b.toNat : Int))[j]? = some (.int .u8 (awSrc[j].toNat : Int)) := by
  intro j hj
  have hj' : j < awSrc.data.toList.length := hj
  rw [List.getElem?_map, List.getElem?_eq_getElem hj']
  rfl

theorem aw_lines (w : World) : Calls Tryd.prog 16 #[.slice (some ⟨w.heap.size, 0, none⟩) 26 26] (w.alloc (.cells #[.int .u8 46, .int .u8 105, .int .u8 102, .int .u8 10, .int .u8 120, .int .u8 10, .int .u8 46, .int .u8 101, .int .u8 108, .int .u8 115, .int .u8 101, .int .u8 10, .int .u8 121, .int .u8 10, .int .u8 46, .int .u8 101, .int .u8 110, .int .u8 100, .int .u8 105, .int .u8 102, .int .u8 10, .int .u8 46, .int .u8 101, .int .u8 110, .int .u8 100, .int .u8 109] 5 (26, 27))) (LinesOut (w.alloc (.cells #[.int .u8 46, .int .u8 105, .int .u8 102, .int .u8 10, .int .u8 120, .int .u8 10, .int .u8 46, .int .u8 101, .int .u8 108, .int .u8 115, .int .u8 101, .int .u8 10, .int .u8 121, .int .u8 10, .int .u8 46, .int .u8 101, .int .u8 110, .int .u8 100, .int .u8 105, .int .u8 102, .int .u8 10, .int .u8 46, .int .u8 101, .int .u8 110, .int .u8 100, .int .u8 109] 5 (26, 27))) awAll) :=
  lines_any awSrc w.heap.size 26 awAll _ (by decide) (by decide) (by decide) awLines (by simp) (fun j hj => by
    have hlit : (#[.int .u8 46, .int .u8 105, .int .u8 102, .int .u8 10, .int .u8 120, .int .u8 10, .int .u8 46, .int .u8 101, .int .u8 108, .int .u8 115, .int .u8 101, .int .u8 10, .int .u8 121, .int .u8 10, .int .u8 46, .int .u8 101, .int .u8 110, .int .u8 100, .int .u8 105, .int .u8 102, .int .u8 10, .int .u8 46, .int .u8 101, .int .u8 110, .int .u8 100, .int .u8 109] : Array Value) = (awSrc.data.toList.map fun b => Value.int .u8 (b.toNat : Int)).toArray := rfl
    rw [World.cell?_alloc_mark, hlit, List.getElem?_toArray]
    exact awCells j hj)

set_option maxRecDepth 100000 in
set_option maxHeartbeats 8000000 in
theorem awake_any (w : World) (hg : Handle w) :
    Calls Tryd.prog 7 #[] w fun e w' => e = .returned (.bool true) ∧ Below w.heap.size w w' := by
  have hconst := fun (w : World) (C : Array Value) (n c : Nat) => Lib.run_convert_bytes_const (P := Tryd.prog) w 44 5 C n c Tryd.underlying44 Tryd.underlying5
  have heq := eql_fault
  have hlines := aw_lines w
  have hbel0 : Below w.heap.size w (w.alloc (.cells #[.int .u8 46, .int .u8 105, .int .u8 102, .int .u8 10, .int .u8 120, .int .u8 10, .int .u8 46, .int .u8 101, .int .u8 108, .int .u8 115, .int .u8 101, .int .u8 10, .int .u8 121, .int .u8 10, .int .u8 46, .int .u8 101, .int .u8 110, .int .u8 100, .int .u8 105, .int .u8 102, .int .u8 10, .int .u8 46, .int .u8 101, .int .u8 110, .int .u8 100, .int .u8 109] 5 (26, 27))) := (Below.refl _ _).alloc (Nat.le_refl _) _
  have HB0 := Lib.hid hbel0
  clear hbel0
  go_enter Tryd.func7, Tryd.ntmps7
  go_wp2_with fail
  refine hlines.mono ?_
  rintro e w1 ⟨v, vs, rfl, hown, hls, hb1⟩
  clear hlines
  obtain ⟨g, cap, hv, _, hltg⟩ := World.ownsRow.form hown (by decide)
  have hv6 : v = .slice (some ⟨g, 0, none⟩) 6 cap := hv
  subst hv6
  clear hv
  have hF1 := awF_in hown hls
  have hbw1 : Below w.heap.size w w1 := HB0.out.trans (hb1.mono (by simp))
  have hF := fun W (hb : Below w1.heap.size w1 W) => hF1.below hb
  have hstep : ∀ W, Below w1.heap.size w1 W → Below w.heap.size w W := fun W h => hbw1.trans (h.mono hbw1.size)
  have HF := Lib.hid hF
  have HS := Lib.hid hstep
  clear hF hF1 hstep hown hls hb1 hbw1
  have hw2 : Below w1.heap.size w1 (w1.alloc (.cells #[.int .i64 0, .int .i64 0, .int .i64 0] 30)) := (Below.refl _ _).alloc (Nat.le_refl _) _
  have hE0 := end_any (awF vs) g 0 6 cap 0 _ (hg.below (HS.out _ hw2) hg.pos) (by omega) (HF.out _ hw2)
  rw [awF_end0] at hE0
  have HW2 := Lib.hid hw2
  clear hw2
  go_wp2_with fail
  refine hE0.mono ?_
  rintro e w3 ⟨rfl, hb3⟩
  clear hE0
  have hw3 : Below w1.heap.size w1 w3 := HW2.out.trans (hb3.mono HW2.out.size)
  have hE5 := end_any (awF vs) g 0 6 cap 5 w3 (hg.below (HS.out _ hw3) hg.pos) (by omega) (HF.out _ hw3)
  rw [awF_end5] at hE5
  have HW3 := Lib.hid hw3
  clear hw3 hb3
  go_wp2_with fail
  refine hE5.mono ?_
  rintro e w4 ⟨b, rfl, hb, hblk, hb4⟩
  clear hE5
  have hw4 : Below w1.heap.size w1 w4 := HW3.out.trans (hb4.mono HW3.out.size)
  have hft := fault_err b 6 1 15 w4 (hg.below (HS.out _ hw4) hg.pos) (by omega) (by omega) hblk
  have HW4 := Lib.hid hw4
  clear hw4 hb4 hb hblk
  go_wp2_with fail
  refine hft.mono ?_
  rintro e w5 ⟨rfl, hb5⟩
  clear hft
  have hw5 : Below w1.heap.size w1 w5 := HW4.out.trans (hb5.mono HW4.out.size)
  have h5 := HF.out _ hw5 5 (by omega)
  have hc5 := h5.cell
  have hk5 := kindLine h5
  rw [awF_kind, awName_kinds.2.2.2.2.2] at hk5
  have HW5 := Lib.hid hw5
  clear hw5 hb5 h5
  go_wp2_with fail
  refine hk5.mono ?_
  rintro e w6 ⟨rfl, rfl⟩
  go_wp2
  go_ret
  exact ⟨rfl, HS.out _ HW5.out⟩
end Go.Proofs.YtccomiigdpfbpaaDoor
