/-
  MemAgain returns true: a memory made of another's cells has these cells. Condition: none that a call's arguments don't bring.
-/
import Derived.Test.YtbhfblogjlpnlaaMeAwake
import Derived.BigGuard
namespace Go.Proofs.Ytbhfblogjlpnlaa
open Go.RowKit Go.Maps

set_option maxRecDepth 100000 in
set_option maxHeartbeats 4000000 in
theorem again_walk {w : World} {A : Option Addr} {c n : Nat} {l : List (Int × Int)} (hn : l.length = n) (h : CellsAt w A l) (hlc : n ≤ c) (hcm : c ≤ maxLen) :
    Calls Try.prog 6 #[.slice A n c] w fun e w' => e = .returned (.bool true) ∧ Below w.heap.size w w' := by
  have HA := Lib.hid (awake_is w)
  have H := Lib.hid h
  have HN := Lib.hid hn
  clear h hn
  go_enter Try.func6, Try.ntmps6
  by_cases hb : 300 < n
  · have hbi : (300 : Int) < n := by omega
    go_wp2_with (go_at_call 7; refine HA.out.mono ?_; rintro e w1 ⟨rfl, hb1⟩)
    go_ret
    exact ⟨rfl, hb1⟩
  have hbi : ¬ (300 : Int) < n := by omega
  have HW := Lib.hid fun W (q : Below w.heap.size w W) => HN.out ▸ new_is (c := c) (H.out.next q) (HN.out ▸ hlc) hcm (by rw [HN.out]; omega)
  go_wp2_with (first
    | (go_at_call 7; refine HA.out.mono ?_; rintro e w1 ⟨rfl, hb1⟩; have HB1 := Lib.hid hb1; clear hb1)
    | (go_at_call 9; refine (HW.out _ HB1.out).mono ?_; rintro e w2 ⟨p, b, rfl, p0, b0, m2, s2⟩; have HM2 := Lib.hid (And.intro m2 (And.intro (cells_is m2 (by omega)) (HB1.out.trans (s2.mono HB1.out.size)))); clear m2 s2)
    | (go_at_call 18; refine HM2.out.2.1.mono ?_; rintro e w3 ⟨B, cc, r, rfl, l1, l2, l3, l4, l5, l6⟩))
  have HB3 : Hid (Below w.heap.size w w3) := Lib.hid (HM2.out.2.2.trans (l6.mono HM2.out.2.2.size))
  have HL := Lib.hid (And.intro l3 l4)
  have hlb : r.length ≤ 100000 := l5
  clear l3 l4 l5 l6
  go_loopg [5] (r.length + 1) (fun k vi wr => ∃ i : Nat, vi = .int .i64 i ∧ i ≤ r.length ∧ r.length + 1 ≤ i + k ∧ Hid (Below w3.heap.size w3 wr))
  case atStart => exact ⟨0, rfl, Nat.zero_le _, by omega, Lib.hid (Below.refl _ _)⟩
  case round =>
    obtain ⟨i, rfl, hi, hk, HI⟩ := hrel
    by_cases hlt : i < r.length
    · have hlti : (i : Int) < r.length := by omega
      have hic : (i : Int) < cc := by omega
      obtain ⟨x, hx⟩ : ∃ x, r[i]? = some x := ⟨_, List.getElem?_eq_getElem hlt⟩
      obtain ⟨g, o, rfl, hg, e0, e1⟩ := (HL.out.2.next HI.out).at_ i x hx
      have hx0 : (x.2 == 0) = false := beq_eq_false_iff_ne.2 (HL.out.1.apart hx)
      cases i with
      | zero =>
        have hz : decide ((0 : Int) < 0) = false := rfl
        go_wp2_with fail
        go_quiet (fail)
        go_wp2_with fail
        rename_i nq
        have HX := Lib.hid (bdrew HI.out : Below w3.heap.size w3 (wr.drewN nq))
        go_roundg (r.length - 0)
        case measure => omega
        case rel => exact ⟨0 + 1, by go_num, by omega, by omega, HX⟩
      | succ j =>
        obtain ⟨y, hy⟩ : ∃ y, r[j]? = some y := ⟨_, List.getElem?_eq_getElem (by omega)⟩
        obtain ⟨g', o', q, _, e2, _⟩ := (HL.out.2.next HI.out).at_ j y hy
        injection q with q
        injection q with q1 q2
        subst q1 q2
        have hup := HL.out.1.up hy hx
        have hupb : decide (x.1 ≤ y.1) = false := decide_eq_false (by omega)
        have hz : decide ((0 : Int) < ((j + 1 : Nat) : Int)) = true := decide_eq_true (by omega)
        clear hx hy
        go_wp2_with fail
        go_quiet (fail)
        go_wp2_with fail
        rename_i nq
        have HX := Lib.hid (bdrew HI.out : Below w3.heap.size w3 (wr.drewN nq))
        go_roundg (r.length - (j + 1))
        case measure => omega
        case rel => exact ⟨(j + 1) + 1, by go_num, by omega, by omega, HX⟩
    · have hlti : ¬ (i : Int) < r.length := by omega
      obtain rfl : i = r.length := by omega
      have hb4 := HI.out
      have HY := Lib.hid (And.intro hb4 (HB3.out.trans (hb4.mono HB3.out.size)))
      have HN2 := Lib.hid fun W (q : Below w3.heap.size w3 W) => new_is (c := cc) (HL.out.2.next q) l1 l2 hlb
      have HQ := Lib.hid HL.out.1.made
      clear hb4
      go_wp2_with (first
        | (go_at_call 9; refine (HN2.out _ HY.out.1).mono ?_; rintro e w5 ⟨p5, b5, rfl, q0, q1, m5, s5⟩; have HM5 := Lib.hid (And.intro (HY.out.1.trans (s5.mono HY.out.1.size)) (And.intro (cells_is m5 hlb) (HY.out.2.trans (s5.mono HY.out.2.size)))); clear m5 s5)
        | (go_at_call 18; refine HM5.out.2.1.mono ?_; rintro e w6 ⟨B6, c6, r6, rfl, y1, y2, y3, y4, y5, y6⟩; obtain rfl : r6 = r := y3.eq HQ.out; have HM6 := Lib.hid (And.intro (HM5.out.2.2.trans (y6.mono HM5.out.2.2.size)) (same_is y4 (HL.out.2.next (HM5.out.1.trans (y6.mono HM5.out.1.size))) y1 l1 y2 l2)); clear y3 y4 y6)
        | (go_at_call 17; refine HM6.out.2.mono ?_; rintro e w7 ⟨rfl, z1⟩))
      go_ret
      exact ⟨rfl, HM6.out.1.trans (z1.mono HM6.out.1.size)⟩
end Go.Proofs.Ytbhfblogjlpnlaa
