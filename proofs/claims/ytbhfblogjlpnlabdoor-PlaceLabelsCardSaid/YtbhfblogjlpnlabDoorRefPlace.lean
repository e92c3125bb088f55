/-
  The contract of the reference's Place. Conditions: numbers in their bounds; the items' and the sizes' cells are there.
-/
import Derived.Test.YtbhfblogjlpnlabDoorPlAwake
import Derived.Deep.DeepCutAuto
import Derived.Deep.CutBlock
import Derived.Deep.LoopGhost
namespace Go.Proofs.YtbhfblogjlpnlabDoor
open Go.RowKit

/-- What the reference's Place answers. -/
def RefPlaceOut (p : Pl) (w0 : World) (e : Ending) (w' : World) : Prop :=
  (((∀ k, k < p.n → p.wrong k = 0) ∧ ∃ g cap, e = .returned (.tuple #[.slice (some ⟨g, 0, none⟩) (p.n + 1) cap, .agg #[.int .i64 0, .int .i64 0, .int .i64 0]]) ∧ U32In p.at_ w' (some ⟨g, 0, none⟩) (p.n + 1)) ∨
   (∃ k, k < p.n ∧ (∀ j, j < k → p.wrong j = 0) ∧ p.wrong k ≠ 0 ∧ e = .returned (.tuple #[.slice none 0 0, .agg #[.int .i64 (p.F k).L, .int .i64 (p.F k).C, .int .i64 (p.wrong k)]]))) ∧ Below w0.heap.size w0 w'

@[reducible] def zerosF : Obj := .cells #[.int .i64 0, .int .i64 0, .int .i64 0] 25
/-- The result's cells, in every world behind the loop's head. -/
structure ResAt (w0 w : World) : Prop where
  f0 : w.cell? ⟨w0.heap.size, 0, none⟩ = some (.int .i64 0)
  f1 : w.cell? ⟨w0.heap.size, 1, none⟩ = some (.int .i64 0)
  f2 : w.cell? ⟨w0.heap.size, 2, none⟩ = some (.int .i64 0)
  z0 : w.frozen? ⟨w0.heap.size, 0, none⟩ = false
  z1 : w.frozen? ⟨w0.heap.size, 1, none⟩ = false
  z2 : w.frozen? ⟨w0.heap.size, 2, none⟩ = false
theorem resAt {w0 w : World} (h : Below (w0.heap.size + 1) (w0.alloc zerosF) w) : ResAt w0 w := by
  have hf := h.cell (p := ⟨w0.heap.size, 0, none⟩) (by simp)
  have hf1 := h.cell (p := ⟨w0.heap.size, 1, none⟩) (by simp)
  have hf2 := h.cell (p := ⟨w0.heap.size, 2, none⟩) (by simp)
  have hz := h.frozen (p := ⟨w0.heap.size, 0, none⟩) (by simp)
  have hz1' := h.frozen (p := ⟨w0.heap.size, 1, none⟩) (by simp)
  have hz2' := h.frozen (p := ⟨w0.heap.size, 2, none⟩) (by simp)
  simp at hf hf1 hf2 hz hz1' hz2'
  exact ⟨hf, hf1, hf2, hz, hz1', hz2'⟩
theorem below_of_res {w0 w : World} (h : Below (w0.heap.size + 1) (w0.alloc zerosF) w) : Below w0.heap.size w0 w :=
  ((Below.refl _ _).alloc (Nat.le_refl _) _).trans (h.mono (by omega))

/-- An item of an even place: what is wrong is told by its bytes alone. -/
theorem wrong_even {p : Pl} {k : Nat} (h : ¬ ((2 ≤ (p.F k).K ∧ (p.F k).K ≤ 7) ∧ p.at_ k % 2 ≠ 0)) {x : Int} (hx : p.by_ k = x) : p.wrong k = if x < 0 ∨ 65536 < p.at_ k + x - p.base ∨ 4294967295 < p.at_ k + x then 12 else 0 := by
  subst hx
  unfold Pl.wrong wrongN
  rw [if_neg h]
theorem wrong_outs {p : Pl} {k : Nat} {x : Int} (h : p.wrong k = if x < 0 ∨ 65536 < p.at_ k + x - p.base ∨ 4294967295 < p.at_ k + x then 12 else 0) (hx : ¬ x < 0) :
    (65536 < p.at_ k + x - p.base ∧ p.wrong k = 12) ∨ (¬ 65536 < p.at_ k + x - p.base ∧ 4294967296 ≤ p.at_ k + x ∧ p.wrong k = 12) ∨ (¬ 65536 < p.at_ k + x - p.base ∧ ¬ 4294967296 ≤ p.at_ k + x ∧ p.wrong k = 0) := by
  rw [h]
  split <;> omega

theorem hdrawn {B : Nat} {w w' : World} (h : Below B w w') {n : Nat} : Below B w (w'.drewN n) := ⟨h.os, h.tape, h.output, h.size, h.block⟩

theorem range_words (V : Nat → Int) (k : Nat) : ((List.range k).map fun j => Value.int .u32 (V j)) ++ [.int .u32 (V k)] = (List.range (k + 1)).map fun j => Value.int .u32 (V j) := by
  rw [List.range_succ]; simp

/-- What holds at the loop's head. -/
structure RpInv (p : Pl) (w0 : World) (k : Nat) (v : Value) (wr : World) : Prop where
  row : wr.ownsRow (w0.heap.size + 1) 35 1 v (k + 1) ((List.range (k + 1)).map fun j => .int .u32 (p.at_ j))
  good : ∀ j, j < k → p.wrong j = 0
  below : Below (w0.heap.size + 1) (w0.alloc zerosF) wr

theorem cell_far {w : World} {b c : Nat} (o j : Nat) (h : b ≠ c) {u : Value} : (w.setCell ⟨b, o, none⟩ u).cell? ⟨c, j, none⟩ = w.cell? ⟨c, j, none⟩ := World.cell?_setCell_other _ _ _ _ (fun e => h (by injection e))

/-- Is an instruction at an odd address? -/
def oddB (t : Itm) (a : Int) : Bool := decide ((2 ≤ t.K ∧ t.K ≤ 7) ∧ a % 2 ≠ 0)

set_option maxRecDepth 100000 in
set_option maxHeartbeats 4000000 in
theorem refPlace_any (p : Pl) (hp : p.Ok) (A : Option Addr) (cap : Nat) (As : Option Addr) (caps : Nat) (w : World) (hF : ItsIn w.heap.size p.F w A p.n) (hS : SzsB w.heap.size p.S w As p.m) :
    Calls Tryd.prog 34 #[.slice A p.n cap, .slice As p.m caps, .int .u32 p.base] w (RefPlaceOut p w) := by
  obtain ⟨i0, hi0, hz0, hz1, hz2⟩ := info_parts Tryd.infoU32
  obtain ⟨b0, b1⟩ : 0 ≤ p.base ∧ p.base < 4294967296 := ⟨hp.b0, hp.b1⟩
  have HF := Lib.hid hF
  have HS := Lib.hid hS
  have HP := Lib.hid hp
  have hfew := hp.few
  have hst : RpInv p w 0 (.slice (some ⟨w.heap.size + 1, 0, none⟩) 1 1) ((w.alloc zerosF).alloc (.cells #[.int .u32 p.base] 35)) := by
    refine ⟨?_, fun j hj => absurd hj (by omega), (Below.refl _ _).alloc (by simp) _⟩
    have := World.ownsRow_lit (base := w.heap.size + 1) (e := 35) (size := 1) (w.alloc zerosF) #[.int .u32 p.base] 1 (by simp) (by decide) rfl
    simpa [Pl.at_] using this
  have HST := Lib.hid hst
  clear hF hS hp hst
  go_enter Tryd.func34, Tryd.ntmps34
  go_wp2_with fail
  go_loopg [8, 9, 10] p.n (fun g a v i wr => ∃ k : Nat, k + g = p.n ∧ i = .int .i64 k ∧ a = .int .i64 (p.at_ k) ∧ RpInv p w k v wr)
  case atStart => exact ⟨0, Nat.zero_add _, rfl, rfl, HST.out⟩
  case round =>
    obtain ⟨k, hk, rfl, rfl, hI⟩ := hrel
    have hk' : k ≤ p.n := by omega
    obtain ⟨g, cp, rfl⟩ := ownsRow_succ hI.row
    have HK := Lib.hid hk
    clear hk
    have HI := Lib.hid hI
    have hbs := hI.below.size
    simp at hbs
    by_cases hlt : k < p.n
    · obtain ⟨B, O, hA, hB, hit⟩ := (HF.out.below (below_of_res hI.below)) k hlt
      subst hA
      obtain ⟨c0, c1, c2, c3, c4, c5, c6, c7, c8, c9, c10, c11, c12, c13, c14⟩ := hit
      obtain ⟨s1, s2, s3, s4, s5, s6⟩ := Pl.small HP.out hlt
      obtain ⟨m0, m1⟩ := HP.out.num k hlt
      have HAT : Hid (∀ W, Below wr.heap.size wr W → ResAt w W ∧ Below w.heap.size w W) := Lib.hid (fun W h => ⟨resAt (hI.below.trans (h.mono (by omega))), below_of_res (hI.below.trans (h.mono (by omega)))⟩)
      have HAL : Hid (Below wr.heap.size wr (wr.alloc (.cells (p.F k).cs 89))) := Lib.hid ((Below.refl _ _).alloc (Nat.le_refl _) _)
      have HALL : Hid (Below w.heap.size w (wr.alloc (.cells (p.F k).cs 89))) := Lib.hid ((below_of_res hI.below).alloc (by omega) _)
      clear hI
      go_upto_region 7 with fail
      go_cut [39] (fun s39 wx => s39 = .bool (oddB (p.F k) (p.at_ k)) ∧ wx = wr.alloc (.cells (p.F k).cs 89))
      case first =>
        by_cases d1 : 2 ≤ (p.F k).K
        · by_cases d2 : (p.F k).K ≤ 7
          · by_cases d3 : p.at_ k % 2 = 1
            · have d4 : (p.at_ k % 2 == 1) = true := by simp [d3]
              have hv : Hid (oddB (p.F k) (p.at_ k) = true) := decide_eq_true (by omega)
              clear d3
              go_wp2_with fail
              go_meet
              case rel => exact ⟨by rw [hv.out], rfl⟩
            · have d4 : (p.at_ k % 2 == 1) = false := by simp [d3]
              have hv : Hid (oddB (p.F k) (p.at_ k) = false) := decide_eq_false (by omega)
              clear d3
              go_wp2_with fail
              go_meet
              case rel => exact ⟨by rw [hv.out], rfl⟩
          · have hv : Hid (oddB (p.F k) (p.at_ k) = false) := decide_eq_false (by omega)
            go_wp2_with fail
            go_meet
            case rel => exact ⟨by rw [hv.out], rfl⟩
        · have hv : Hid (oddB (p.F k) (p.at_ k) = false) := decide_eq_false (by omega)
          go_wp2_with fail
          go_meet
          case rel => exact ⟨by rw [hv.out], rfl⟩
      case rest =>
        obtain ⟨rfl, rfl⟩ := hcut
        cases hodd : oddB (p.F k) (p.at_ k) with
        | true =>
          have hw : p.wrong k = 16 := by unfold Pl.wrong wrongN; rw [if_pos (of_decide_eq_true hodd)]
          have HW := Lib.hid hw
          clear hw hodd
          go_wp2_with (go_at_call 57; refine (refAt_any (p.F k) 16 _).mono ?_; rintro e w2 ⟨rfl, hb2⟩; obtain ⟨⟨f0, f1, f2, z0, z1, z2⟩, hbw⟩ := HAT.out w2 (HAL.out.trans (hb2.mono (by simp))); have HBW := Lib.hid hbw; clear hbw hb2)
          refine bodyPost_ret (v := .tuple #[.slice none 0 0, .agg #[.int .i64 (p.F k).L, .int .i64 (p.F k).C, .int .i64 16]]) (by simp [results, Tryd.results34, go_sem, f0, f1, f2]) rfl ?_
          refine ⟨.inr ⟨k, hlt, HI.out.good, by rw [HW.out]; decide, by rw [HW.out]⟩, ((HBW.out.setCell (by simp) _).setCell (by simp) _).setCell (by simp) _⟩
        | false =>
          have hev : ¬ ((2 ≤ (p.F k).K ∧ (p.F k).K ≤ 7) ∧ p.at_ k % 2 ≠ 0) := of_decide_eq_false hodd
          have HWV := Lib.hid (fun x hx => wrong_even (x := x) hev hx)
          clear hodd hev
          go_upto_block 2 with fail
          go_cut [12] (fun s12 wx => s12 = .int .i64 (p.by_ k) ∧ 0 ≤ p.by_ k ∧ Below (wr.heap.size + 1) (wr.alloc (.cells (p.F k).cs 89)) wx)
          case first =>
            have hkinds : (Lead (p.F k).K ∧ p.by_ k = min (max (sizeOf_ p.S p.m k) 0) 8) ∨ ((p.F k).K = 10 ∧ (p.F k).num = 0 ∧ p.by_ k = 0) ∨ ((p.F k).K = 10 ∧ (p.F k).num ≠ 0 ∧ p.by_ k = ((p.F k).num - p.at_ k % (p.F k).num) % (p.F k).num) ∨ ((p.F k).K = 11 ∧ p.by_ k = p.base + (p.F k).num - p.at_ k) ∨ (¬ Lead (p.F k).K ∧ (p.F k).K ≠ 10 ∧ (p.F k).K ≠ 11 ∧ p.by_ k = fixedN (p.F k)) := by
              unfold Pl.by_ bytesN Pl.sizeAt
              by_cases h1 : Lead (p.F k).K
              · exact .inl ⟨h1, if_pos h1⟩
              · rw [if_neg h1]
                by_cases h2 : (p.F k).K = 10
                · rw [if_pos h2]
                  by_cases h3 : (p.F k).num = 0
                  · exact .inr (.inl ⟨h2, h3, if_pos h3⟩)
                  · exact .inr (.inr (.inl ⟨h2, h3, if_neg h3⟩))
                · rw [if_neg h2]
                  by_cases h3 : (p.F k).K = 11
                  · exact .inr (.inr (.inr (.inl ⟨h3, if_pos h3⟩)))
                  · exact .inr (.inr (.inr (.inr ⟨h1, h2, h3, if_neg h3⟩)))
            rcases hkinds with ⟨hK, hX⟩ | ⟨hK, hN, hX⟩ | ⟨hK, hN, hX⟩ | ⟨hK, hX⟩ | ⟨hL, h10, h11, hX⟩
            case inl =>
              have HX := Lib.hid hX
              have hc : ((p.F k).K == 4) = true ∨ (((p.F k).K == 4) = false ∧ ((p.F k).K == 5) = true) ∨ (((p.F k).K == 4) = false ∧ ((p.F k).K == 5) = false ∧ ((p.F k).K == 6) = true) := by
                rcases hK with h | h | h <;> rw [h] <;> decide
              have HSD := Lib.hid (said_any p.S As p.m caps k (wr.alloc (.cells (p.F k).cs 89)) (HS.out.in_.below HALL.out))
              clear hX hK
              rcases hc with h4 | ⟨h4, h5⟩ | ⟨h4, h5, h6⟩
              all_goals
                go_wp2_with (go_at_call 58; refine HSD.out.mono ?_; rintro e w5 ⟨rfl, rfl⟩)
                go_meet
                case rel => exact ⟨by rw [HX.out], by rw [HX.out]; omega, Below.refl _ _⟩
            case inr.inl =>
              have HX := Lib.hid hX
              have h4 : ((p.F k).K == 4) = false := by rw [hK]; decide
              have h5 : ((p.F k).K == 5) = false := by rw [hK]; decide
              have h6 : ((p.F k).K == 6) = false := by rw [hK]; decide
              have h10 : ((p.F k).K == 10) = true := by rw [hK]; decide
              have hN2 : ¬ 0 < (p.F k).num := by omega
              clear hX hK hN
              go_wp2_with fail
              go_meet
              case rel => exact ⟨by rw [HX.out], by rw [HX.out]; omega, Below.refl _ _⟩
            case inr.inr.inl =>
              have HX := Lib.hid hX
              have h4 : ((p.F k).K == 4) = false := by rw [hK]; decide
              have h5 : ((p.F k).K == 5) = false := by rw [hK]; decide
              have h6 : ((p.F k).K == 6) = false := by rw [hK]; decide
              have h10 : ((p.F k).K == 10) = true := by rw [hK]; decide
              obtain ⟨y1, y2, y3, y4, y5, y6⟩ := num_bits m0 (p.at_ k) hN
              have hN2 : 0 < (p.F k).num := by omega
              clear hX hK hN
              go_wp2_with fail
              go_quiet (fail)
              go_wp2_with fail
              go_meet
              case rel => exact ⟨by rw [HX.out], by rw [HX.out]; omega, hdrawn (Below.refl _ _)⟩
            case inr.inr.inr.inl =>
              have HX := Lib.hid hX
              have h4 : ((p.F k).K == 4) = false := by rw [hK]; decide
              have h5 : ((p.F k).K == 5) = false := by rw [hK]; decide
              have h6 : ((p.F k).K == 6) = false := by rw [hK]; decide
              have h10 : ((p.F k).K == 10) = false := by rw [hK]; decide
              have h11 : ((p.F k).K == 11) = true := by rw [hK]; decide
              clear hX hK
              by_cases hneg : p.base + (p.F k).num - p.at_ k < 0
              · have hw : p.wrong k = 12 := by rw [HWV.out _ HX.out, if_pos (.inl hneg)]
                have HW := Lib.hid hw
                clear hw
                go_wp2_with (go_at_call 57; refine (refAt_any (p.F k) 12 _).mono ?_; rintro e w2 ⟨rfl, hb2⟩; obtain ⟨⟨f0, f1, f2, z0, z1, z2⟩, hbw⟩ := HAT.out w2 (HAL.out.trans (hb2.mono (by simp))); have HBW := Lib.hid hbw; clear hbw hb2)
                refine bodyPost_ret (v := .tuple #[.slice none 0 0, .agg #[.int .i64 (p.F k).L, .int .i64 (p.F k).C, .int .i64 12]]) (by simp [results, Tryd.results34, go_sem, f0, f1, f2]) rfl ?_
                refine ⟨.inr ⟨k, hlt, HI.out.good, by rw [HW.out]; decide, by rw [HW.out]⟩, ((HBW.out.setCell (by simp) _).setCell (by simp) _).setCell (by simp) _⟩
              · go_wp2_with fail
                go_meet
                case rel => exact ⟨by rw [HX.out], by rw [HX.out]; omega, Below.refl _ _⟩
            case inr.inr.inr.inr =>
              have HX := Lib.hid hX
              have h4 : ((p.F k).K == 4) = false := by simp; omega
              have h5 : ((p.F k).K == 5) = false := by simp; omega
              have h6 : ((p.F k).K == 6) = false := by simp; omega
              have h10' : ((p.F k).K == 10) = false := by simp; omega
              have h11' : ((p.F k).K == 11) = false := by simp; omega
              have HCL := Lib.hid (refClasses_any (p.F k) hL (wr.alloc (.cells (p.F k).cs 89)))
              have hnn := fixedN_pos (p.F k)
              clear hX hL h10 h11
              go_wp2_with (go_at_call 40; refine HCL.out.mono ?_; rintro e w2 ⟨g2, rfl, hc2, hb2⟩)
              go_meet
              case rel => exact ⟨by rw [HX.out], by rw [HX.out]; exact hnn, hb2.mono (by simp)⟩
          case rest =>
            obtain ⟨rfl, hpos, hbc⟩ := hcut
            have hneg : ¬ p.by_ k < 0 := by omega
            have e0 := hbc.cell (p := ⟨wr.heap.size, 0, none⟩) (by simp)
            have e1 := hbc.cell (p := ⟨wr.heap.size, 1, none⟩) (by simp)
            have e2 := hbc.cell (p := ⟨wr.heap.size, 2, none⟩) (by simp)
            have e3 := hbc.cell (p := ⟨wr.heap.size, 3, none⟩) (by simp)
            have e4 := hbc.cell (p := ⟨wr.heap.size, 4, none⟩) (by simp)
            have e5 := hbc.cell (p := ⟨wr.heap.size, 5, none⟩) (by simp)
            have e6 := hbc.cell (p := ⟨wr.heap.size, 6, none⟩) (by simp)
            have e7 := hbc.cell (p := ⟨wr.heap.size, 7, none⟩) (by simp)
            have e8 := hbc.cell (p := ⟨wr.heap.size, 8, none⟩) (by simp)
            have e9 := hbc.cell (p := ⟨wr.heap.size, 9, none⟩) (by simp)
            have e10 := hbc.cell (p := ⟨wr.heap.size, 10, none⟩) (by simp)
            have e11 := hbc.cell (p := ⟨wr.heap.size, 11, none⟩) (by simp)
            have e12 := hbc.cell (p := ⟨wr.heap.size, 12, none⟩) (by simp)
            have e13 := hbc.cell (p := ⟨wr.heap.size, 13, none⟩) (by simp)
            have e14 := hbc.cell (p := ⟨wr.heap.size, 14, none⟩) (by simp)
            simp [Itm.cs] at e0 e1 e2 e3 e4 e5 e6 e7 e8 e9 e10 e11 e12 e13 e14
            have hszc := hbc.size
            simp at hszc
            have HBW1 := Lib.hid ((HAL.out).trans (hbc.mono (by omega)))
            clear hbc c0 c1 c2 c3 c4 c5 c6 c7 c8 c9 c10 c11 c12 c13 c14
            rcases wrong_outs (HWV.out _ rfl) hneg with ⟨t1, hw⟩ | ⟨t1, t2, hw⟩ | ⟨t1, t2, hw⟩
            case inl =>
              have HW := Lib.hid hw
              clear hw
              go_wp2_with (go_at_call 57; refine (refAt_any (p.F k) 12 _).mono ?_; rintro e w2 ⟨rfl, hb2⟩; obtain ⟨⟨f0, f1, f2, z0, z1, z2⟩, hbw⟩ := HAT.out w2 (HBW1.out.trans (hb2.mono (by omega))); have HBW := Lib.hid hbw; clear hbw hb2)
              refine bodyPost_ret (v := .tuple #[.slice none 0 0, .agg #[.int .i64 (p.F k).L, .int .i64 (p.F k).C, .int .i64 12]]) (by simp [results, Tryd.results34, go_sem, f0, f1, f2]) rfl ?_
              refine ⟨.inr ⟨k, hlt, HI.out.good, by rw [HW.out]; decide, by rw [HW.out]⟩, ((HBW.out.setCell (by simp) _).setCell (by simp) _).setCell (by simp) _⟩
            case inr.inl =>
              have HW := Lib.hid hw
              clear hw
              go_wp2_with (go_at_call 57; refine (refAt_any (p.F k) 12 _).mono ?_; rintro e w2 ⟨rfl, hb2⟩; obtain ⟨⟨f0, f1, f2, z0, z1, z2⟩, hbw⟩ := HAT.out w2 (HBW1.out.trans (hb2.mono (by omega))); have HBW := Lib.hid hbw; clear hbw hb2)
              refine bodyPost_ret (v := .tuple #[.slice none 0 0, .agg #[.int .i64 (p.F k).L, .int .i64 (p.F k).C, .int .i64 12]]) (by simp [results, Tryd.results34, go_sem, f0, f1, f2]) rfl ?_
              refine ⟨.inr ⟨k, hlt, HI.out.good, by rw [HW.out]; decide, by rw [HW.out]⟩, ((HBW.out.setCell (by simp) _).setCell (by simp) _).setCell (by simp) _⟩
            case inr.inr =>
              have HW := Lib.hid hw
              clear hw
              go_wp2_with (at_builtin; have o8 := HI.out.row.kept (grows_of HBW1.out) (.inr (fun e => by cases e)); refine wpList_append_own_at _ rfl (.tmp 101) (.tmp 104) 70 rfl (w.heap.size + 1) 35 i0 (.int .u32 0) 1 4 Tryd.underlying70 hi0 hz0 hz1 hz2 rfl (by decide) _ _ _ rfl (o8.alloc _) ⟨wc.heap.size, 0, none⟩ 1 1 [.int .u32 (p.at_ k + p.by_ k)] rfl rfl (cell_one_new _ _ _) (by intro u hu; simp at hu; subst hu; rfl) (by unfold maxLen; omega) (by omega) (by simp at *; omega) ?_; intro v' w3 hown3 hg3 _ _; have HN := Lib.hid hown3; have HG := Lib.hid hg3; clear hown3 hg3 o8)
              go_roundg (gk - 1)
              case measure => have := HK.out; omega
              case rel =>
                have e1 : p.at_ k + p.by_ k = p.at_ (k + 1) := rfl
                refine ⟨k + 1, by have := HK.out; omega, by go_num, by rw [e1], ⟨by rw [← range_words]; exact HN.out, fun j hj => ?_, ?_⟩⟩
                · rcases Nat.lt_or_ge j k with h1 | h1
                  · exact HI.out.good j h1
                  · obtain rfl : j = k := by omega
                    exact HW.out
                · have hb4 := HI.out.below.trans (HBW1.out.mono hbs)
                  have hz4 := hb4.size
                  simp at hz4
                  exact (hb4.alloc hz4 _).grown HG.out (by simp; omega) (fun x hx => ((HI.out.row).lt x hx).1)
    · obtain rfl : k = p.n := by omega
      have hlt2 : ¬ (p.n : Int) < p.n := by omega
      obtain ⟨f0, f1, f2, z0, z1, z2⟩ := resAt hI.below
      clear hI
      go_wp2_with fail
      refine bodyPost_ret (v := .tuple #[.slice (some ⟨g, 0, none⟩) (p.n + 1) cp, .agg #[.int .i64 0, .int .i64 0, .int .i64 0]]) (by simp [results, Tryd.results34, go_sem, f0, f1, f2]) rfl ?_
      have hb := HI.out.below
      have hb2 := ((below_of_res hb).setCell (p := ⟨w.heap.size, 0, none⟩) (by simp) (.int .i64 0)).setCell (p := ⟨w.heap.size, 1, none⟩) (by simp) (.int .i64 0) |>.setCell (p := ⟨w.heap.size, 2, none⟩) (by simp) (.int .i64 0)
      refine ⟨.inl ⟨HI.out.good, g, cp, rfl, ?_⟩, hb2⟩
      have hlt3 := (HI.out.row.lt g rfl)
      intro j hj
      refine ⟨g, 0, rfl, ?_⟩
      have hc := HI.out.row.cellAt j (by omega)
      rw [Nat.zero_add]
      have hne : g ≠ w.heap.size := by omega
      rw [cell_far _ _ hne.symm, cell_far _ _ hne.symm, cell_far _ _ hne.symm, hc]
      simp [hj]
end Go.Proofs.YtbhfblogjlpnlabDoor
