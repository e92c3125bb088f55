/-
  The law PlaceSteps answers true. Conditions: the handle of the type error; the items' and the sizes' cells are there; numbers in their bounds.
-/
import Derived.Test.YtbhfblogjlpnlabDoorGrowsLaw
namespace Go.Proofs.YtbhfblogjlpnlabDoor
open Go.RowKit

theorem at_span {p : Pl} (h : ∀ k, k < p.n → p.wrong k = 0) : ∀ k, k ≤ p.n → p.at_ k - p.base ≤ 65536 := by
  intro k hk
  cases k with
  | zero => show p.base - p.base ≤ _; omega
  | succ k =>
    have h2 := wrong_zero (h k (by omega))
    rw [Pl.at_succ]
    omega

theorem align_mod {a N : Int} : (a + (N - a % N) % N) % N = 0 := by
  rw [Int.add_emod_emod, ← Int.add_sub_assoc, Int.sub_emod_emod, show a + N - a = N by omega, Int.emod_self]

theorem item_at {F : Nat → Itm} {w wr : World} {B O k : Nat} (hit : ItAt w B O (F k)) (hb : B < w.heap.size) (h : Below w.heap.size w wr) : ItAt wr B O (F k) := hit.keep (h.block B hb)

set_option maxRecDepth 100000 in
set_option maxHeartbeats 4000000 in
theorem steps_law (A : Option Addr) (n cap : Nat) (As : Option Addr) (m caps : Nat) (base : Int) (F : Nat → Itm) (S : Nat → Int) (W : World) (hg : Handle W) (ha : PlaceArgs W A n F) (hS : SzsB W.heap.size S W As m) (b0 : 0 ≤ base) (b1 : base < 4294967296) :
    Calls Tryd.prog 11 #[.slice A n cap, .slice As m caps, .int .u32 base] W fun e w' => e = .returned (.bool true) ∧ Below W.heap.size W w' := by
  have HA := Lib.hid ha
  have HS := Lib.hid hS
  have HG := Lib.hid hg
  clear ha hS
  go_enter Tryd.func11, Tryd.ntmps11
  go_wp2_with fail
  refine (awake_any W hg).mono ?_
  rintro e w1 ⟨rfl, hb1⟩
  have HB1 := Lib.hid hb1
  clear hb1 hg
  go_wp2_with fail
  refine (light_any F A n cap w1 HA.out.few (HA.out.its.at_ HB1.out) HA.out.nm).mono ?_
  rintro e w2 ⟨r, rfl, hr, hb2⟩
  have HB2 := Lib.hid (HB1.out.trans (hb2.mono HB1.out.size))
  have HR := Lib.hid hr
  clear hb2 hr
  cases r with
  | false =>
    go_wp2
    go_ret
    exact ⟨rfl, HB2.out⟩
  | true =>
    obtain ⟨hfew, hnm⟩ := HR.out rfl
    have hp : (⟨F, S, m, n, base⟩ : Pl).Ok := ⟨b0, b1, HA.out.num, hnm, by show n ≤ 4000; omega⟩
    have HP := Lib.hid hp
    clear hp hnm
    go_wp2_with fail
    refine (place_any ⟨F, S, m, n, base⟩ HP.out A cap As caps w2 (HG.out.below HB2.out HG.out.pos) (HA.out.its.at_ HB2.out) (HS.out.at_ HB2.out)).mono ?_
    rintro e w3 ⟨h3, hb3⟩
    have HB3 := Lib.hid (HB2.out.trans (hb3.mono HB2.out.size))
    clear hb3
    rcases h3 with ⟨hall, g, rfl, hrow⟩ | ⟨k, hk, hlt, hw, b, rfl, hbb, hkk⟩
    · have HU := Lib.hid (row_words hrow)
      have HALL := Lib.hid hall
      clear hrow hall
      have c0 := words_at HU.out (show 0 < n + 1 by omega)
      have e0 : Pl.at_ ⟨F, S, m, n, base⟩ 0 = base := rfl
      rw [e0] at c0
      clear e0
      go_wp2_with fail
      go_loopg [9] n (fun g i wr => ∃ k : Nat, k + g = n ∧ i = .int .i64 k ∧ Below w3.heap.size w3 wr)
      case atStart => exact ⟨0, Nat.zero_add _, rfl, Below.refl _ _⟩
      case round =>
        obtain ⟨k, hk, rfl, hb⟩ := hrel
        have hk' : k ≤ n := by omega
        have HK := Lib.hid hk
        have HBR := Lib.hid hb
        have hsz := hb.size
        have HBW := Lib.hid (HB3.out.trans (hb.mono HB3.out.size))
        have HUR := Lib.hid (HU.out.below hb)
        clear hk hb c0
        by_cases hlt : k < n
        · obtain ⟨B, O, hA, hB, hit⟩ := (HA.out.its.at_ HBW.out) k hlt
          subst hA
          obtain ⟨c0, c1, c2, c3, c4, c5, c6, c7, c8, c9, c10, c11, c12, c13, c14⟩ := hit
          obtain ⟨m0, m1⟩ := HA.out.num k hlt
          have r1 := at_right (p := ⟨F, S, m, n, base⟩) b0 b1 HALL.out k (Nat.le_of_lt hlt)
          have r2 := wrong_zero (HALL.out k hlt)
          have d1 := words_at HUR.out (show k < n + 1 by omega)
          have d2 := words_at HUR.out (show k + 1 < n + 1 by omega)
          rw [Pl.at_succ] at d2
          have hby : Pl.by_ ⟨F, S, m, n, base⟩ k = bytesN (F k) (sizeOf_ S m k) (Pl.at_ ⟨F, S, m, n, base⟩ k) base := rfl
          simp only at r1 r2
          have hkinds : (Lead (F k).K ∧ Pl.by_ ⟨F, S, m, n, base⟩ k = min (max (sizeOf_ S m k) 0) 8) ∨ ((F k).K = 10 ∧ (F k).num = 0 ∧ Pl.by_ ⟨F, S, m, n, base⟩ k = 0) ∨ ((F k).K = 10 ∧ (F k).num ≠ 0 ∧ Pl.by_ ⟨F, S, m, n, base⟩ k = ((F k).num - Pl.at_ ⟨F, S, m, n, base⟩ k % (F k).num) % (F k).num) ∨ ((F k).K = 11 ∧ Pl.by_ ⟨F, S, m, n, base⟩ k = base + (F k).num - Pl.at_ ⟨F, S, m, n, base⟩ k) ∨ (¬ Lead (F k).K ∧ (F k).K ≠ 10 ∧ (F k).K ≠ 11 ∧ Pl.by_ ⟨F, S, m, n, base⟩ k = fixedN (F k)) := by
            rw [hby]
            unfold bytesN
            by_cases h1 : Lead (F k).K
            · exact .inl ⟨h1, if_pos h1⟩
            · rw [if_neg h1]
              by_cases h2 : (F k).K = 10
              · rw [if_pos h2]
                by_cases h3 : (F k).num = 0
                · exact .inr (.inl ⟨h2, h3, if_pos h3⟩)
                · exact .inr (.inr (.inl ⟨h2, h3, if_neg h3⟩))
              · rw [if_neg h2]
                by_cases h3 : (F k).K = 11
                · exact .inr (.inr (.inr (.inl ⟨h3, if_pos h3⟩)))
                · exact .inr (.inr (.inr (.inr ⟨h1, h2, h3, if_neg h3⟩)))
          clear hby
          generalize Pl.at_ ⟨F, S, m, n, base⟩ k = a at *
          generalize Pl.by_ ⟨F, S, m, n, base⟩ k = y at *
          have x1 : IntKind.u32.wrap (a + y - a) = y := u32_in (by omega) (by omega) (by omega)
          have x5 : IntKind.i64.wrap ((k : Int) + 1) = (k : Int) + 1 := (IntKind.wrap_i64 _).trans (by omega)
          have x6 : ((k : Int) + 1).toNat = k + 1 := by omega
          have x7 : (0 : Int) ≤ (k : Int) + 1 := by omega
          have x8 : (k : Int) + 1 < (n : Int) + 1 := by omega
          go_upto_region 13 with fail
          go_cut [10] (fun v wx => v = .int .u32 y ∧ Drawn wr wx)
          case first =>
            clear hkinds
            go_quiet (fail)
            go_wp2_with fail
            go_meet
            case rel => exact ⟨rfl, (Drawn.start _).more _⟩
          case rest =>
            obtain ⟨rfl, hd⟩ := hcut
            have e0 := hd.old c0
            have e1 := hd.old c1
            have e2 := hd.old c2
            have e3 := hd.old c3
            have e4 := hd.old c4
            have e5 := hd.old c5
            have e6 := hd.old c6
            have e7 := hd.old c7
            have e8 := hd.old c8
            have e9 := hd.old c9
            have e10 := hd.old c10
            have e11 := hd.old c11
            have e12 := hd.old c12
            have e13 := hd.old c13
            have e14 := hd.old c14
            have f1 := hd.old d1
            have f2 := hd.old d2
            have g1 : g < wc.heap.size := World.block_lt_of_cell? _ _ f1
            have hdb := hd.below
            have HWC := Lib.hid (HBW.out.trans (hdb.mono HBW.out.size))
            have HWC3 := Lib.hid (HBR.out.trans (hdb.mono hsz))
            have hsz3 := HWC3.out.size
            have HAL3 : Hid (Below w3.heap.size w3 (wc.alloc (.cells (F k).cs 89))) := Lib.hid (HWC3.out.alloc hsz3 _)
            clear c0 c1 c2 c3 c4 c5 c6 c7 c8 c9 c10 c11 c12 c13 c14 d1 d2 hd hdb
            rcases hkinds with ⟨hK, hX⟩ | ⟨hK, hN, hX⟩ | ⟨hK, hN, hX⟩ | ⟨hK, hX⟩ | ⟨hL, h10, h11, hX⟩
            case inl =>
              have hc : ((F k).K == 4) = true ∨ (((F k).K == 4) = false ∧ ((F k).K == 5) = true) ∨ (((F k).K == 4) = false ∧ ((F k).K == 5) = false ∧ ((F k).K == 6) = true) := by
                rcases hK with h | h | h <;> rw [h] <;> decide
              have y8 : ¬ 8 < y := by omega
              have hm : (k < m) ∨ (¬ k < m ∧ (y != 0) = false) := by
                by_cases h : k < m
                · exact .inl h
                · refine .inr ⟨h, ?_⟩
                  have : sizeOf_ S m k = 0 := if_neg h
                  have hy0 : y = 0 := by omega
                  simp [hy0]
              clear hX hK
              rcases hm with hm | ⟨hm, hy0⟩
              · have hm2 : ¬ (m : Int) ≤ k := by omega
                rcases hc with h4 | ⟨h4, h5⟩ | ⟨h4, h5, h6⟩
                all_goals
                  go_wp2_with fail
                  go_roundg (gk - 1)
                  case measure => have := HK.out; omega
                  case rel => exact ⟨k + 1, by have := HK.out; omega, by go_num, HAL3.out⟩
              · have hm2 : (m : Int) ≤ k := by omega
                rcases hc with h4 | ⟨h4, h5⟩ | ⟨h4, h5, h6⟩
                all_goals
                  go_wp2_with fail
                  go_roundg (gk - 1)
                  case measure => have := HK.out; omega
                  case rel => exact ⟨k + 1, by have := HK.out; omega, by go_num, HAL3.out⟩
            case inr.inl =>
              have h4 : ((F k).K == 4) = false := by rw [hK]; decide
              have h5 : ((F k).K == 5) = false := by rw [hK]; decide
              have h6 : ((F k).K == 6) = false := by rw [hK]; decide
              have h10 : ((F k).K == 10) = true := by rw [hK]; decide
              have z1 : decide (0 < (F k).num) = false := decide_eq_false (by omega)
              have z2 : ((F k).num == 0) = true := by simp [hN]
              have z3 : (y != 0) = false := by simp [hX]
              clear hX hK hN
              go_upto_region 24 with fail
              go_quiet (fail)
              go_wp2_with fail
              go_roundg (gk - 1)
              case measure => have := HK.out; omega
              case rel => exact ⟨k + 1, by have := HK.out; omega, by go_num, hdrawn HAL3.out⟩
            case inr.inr.inl =>
              have h4 : ((F k).K == 4) = false := by rw [hK]; decide
              have h5 : ((F k).K == 5) = false := by rw [hK]; decide
              have h6 : ((F k).K == 6) = false := by rw [hK]; decide
              have h10 : ((F k).K == 10) = true := by rw [hK]; decide
              obtain ⟨y1, y2, y3, y4, y5, y6⟩ := num_bits m0 a hN
              have z1 : decide (0 < (F k).num) = true := decide_eq_true (by omega)
              have z2 : ((F k).num == 0) = false := by simp [hN]
              have z3 : ¬ (F k).num ≤ y := by omega
              have z4 : (a + y) % (F k).num = 0 := by rw [hX]; exact align_mod
              have z5 : (((a + y).tmod (F k).num) != 0) = false := by rw [IntWalk.rem_in _ _ (by omega), z4]; rfl
              have z6 : (((a + y) % (F k).num) != 0) = false := by rw [z4]; rfl
              have z7 : decide ((F k).num ≤ y) = false := decide_eq_false z3
              clear hX hK z4 y1 y2 y3 y4 y5 y6
              go_upto_region 24 with fail
              go_quiet (fail)
              go_wp2_with fail
              go_roundg (gk - 1)
              case measure => have := HK.out; omega
              case rel => exact ⟨k + 1, by have := HK.out; omega, by go_num, hdrawn HAL3.out⟩
            case inr.inr.inr.inl =>
              have h4 : ((F k).K == 4) = false := by rw [hK]; decide
              have h5 : ((F k).K == 5) = false := by rw [hK]; decide
              have h6 : ((F k).K == 6) = false := by rw [hK]; decide
              have h10 : ((F k).K == 10) = false := by rw [hK]; decide
              have h11 : ((F k).K == 11) = true := by rw [hK]; decide
              have z1 : IntKind.u32.wrap (a + y - base) = (F k).num := u32_in (by omega) (by omega) (by omega)
              clear hX hK
              go_upto_region 27 with fail
              go_quiet (fail)
              go_wp2_with fail
              go_roundg (gk - 1)
              case measure => have := HK.out; omega
              case rel => exact ⟨k + 1, by have := HK.out; omega, by go_num, hdrawn HAL3.out⟩
            case inr.inr.inr.inr =>
              have h4 : ((F k).K == 4) = false := by simp; omega
              have h5 : ((F k).K == 5) = false := by simp; omega
              have h6 : ((F k).K == 6) = false := by simp; omega
              have h10' : ((F k).K == 10) = false := by simp; omega
              have h11' : ((F k).K == 11) = false := by simp; omega
              subst hX
              have HCL := Lib.hid (refClasses_any (F k) hL (wc.alloc (.cells (F k).cs 89)))
              have z1 : IntKind.u32.wrap (fixedN (F k)) = fixedN (F k) := u32_in rfl (by omega) (by omega)
              clear hL h10 h11
              go_wp2_with (go_at_call 40; refine HCL.out.mono ?_; rintro e w6 ⟨g2, rfl, hc2, hb2⟩)
              go_roundg (gk - 1)
              case measure => have := HK.out; omega
              case rel => exact ⟨k + 1, by have := HK.out; omega, by go_num, HAL3.out.trans (hb2.mono HAL3.out.size)⟩
        · obtain rfl : k = n := by omega
          have c9 := words_at HUR.out (show k < k + 1 by omega)
          have r1 := at_right (p := ⟨F, S, m, k, base⟩) b0 b1 HALL.out k (Nat.le_refl k)
          have r2 := at_span (p := ⟨F, S, m, k, base⟩) HALL.out k (Nat.le_refl k)
          simp only at r1 r2
          generalize Pl.at_ ⟨F, S, m, k, base⟩ k = a at *
          go_wp2
          go_ret
          exact ⟨rfl, HBW.out⟩
    · go_wp2
      go_ret
      exact ⟨rfl, HB3.out⟩
end Go.Proofs.YtbhfblogjlpnlabDoor
