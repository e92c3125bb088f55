/-
  The law PlaceLies answers true. Conditions: the handle of the type error; the items' and the sizes' cells are there; numbers in their bounds.
-/
import Derived.Test.YtbhfblogjlpnlabDoorRefPlace
import Derived.Test.YtbhfblogjlpnlabDoorPlOpen
namespace Go.Proofs.YtbhfblogjlpnlabDoor
open Go.RowKit

theorem ItsIn.up {n₀ n₁ : Nat} {F : Nat → Itm} {w : World} {A : Option Addr} {n : Nat} (h : ItsIn n₀ F w A n) (hn : n₀ ≤ n₁) : ItsIn n₁ F w A n := by
  intro k hk
  obtain ⟨B, O, hA, hB, hi⟩ := h k hk
  exact ⟨B, O, hA, by omega, hi⟩
theorem SzsB.up {n₀ n₁ : Nat} {S : Nat → Int} {w : World} {A : Option Addr} {m : Nat} (h : SzsB n₀ S w A m) (hn : n₀ ≤ n₁) : SzsB n₁ S w A m := by
  intro j hj
  obtain ⟨B, O, hA, hB, hc⟩ := h j hj
  exact ⟨B, O, hA, by omega, hc⟩
theorem ItsIn.at_ {F : Nat → Itm} {w w' : World} {A : Option Addr} {n : Nat} (h : ItsIn w.heap.size F w A n) (hb : Below w.heap.size w w') : ItsIn w'.heap.size F w' A n := (h.below hb).up hb.size
theorem SzsB.at_ {S : Nat → Int} {w w' : World} {A : Option Addr} {m : Nat} (h : SzsB w.heap.size S w A m) (hb : Below w.heap.size w w') : SzsB w'.heap.size S w' A m := (h.below hb).up hb.size

theorem wrong_codes (p : Pl) (k : Nat) (h : p.wrong k ≠ 0) : 1 ≤ p.wrong k ∧ p.wrong k ≤ 16 := by
  unfold Pl.wrong wrongN at *
  split
  · omega
  · split
    · omega
    · rename_i h1 h2
      rw [if_neg h1, if_neg h2] at h
      exact absurd rfl h

/-- What the laws of this layer are handed. -/
structure PlaceArgs (W : World) (A : Option Addr) (n : Nat) (F : Nat → Itm) : Prop where
  its : ItsIn W.heap.size F W A n
  num : ∀ k, k < n → 0 ≤ (F k).num ∧ (F k).num < 4294967296
  few : n ≤ 140737488351232
  nm : ∀ k, k < n → (F k).nm.size ≤ 140737488351232 ∧ (F k).nl ≤ 140737488351232

set_option maxRecDepth 100000 in
set_option maxHeartbeats 4000000 in
theorem lies_law (A : Option Addr) (n cap : Nat) (As : Option Addr) (m caps : Nat) (base : Int) (F : Nat → Itm) (S : Nat → Int) (W : World) (hg : Handle W) (ha : PlaceArgs W A n F) (hS : SzsB W.heap.size S W As m) (b0 : 0 ≤ base) (b1 : base < 4294967296) :
    Calls Tryd.prog 8 #[.slice A n cap, .slice As m caps, .int .u32 base] W fun e w' => e = .returned (.bool true) ∧ Below W.heap.size W w' := by
  have HA := Lib.hid ha
  have HS := Lib.hid hS
  have HG := Lib.hid hg
  have heq := eql_faults
  clear ha hS
  go_enter Tryd.func8, Tryd.ntmps8
  go_wp2_with fail
  refine (awake_any W hg).mono ?_
  rintro e w1 ⟨rfl, hb1⟩
  have HB1 := Lib.hid hb1
  clear hb1 hg
  go_wp2_with fail
  refine (light_any F A n cap w1 HA.out.few (HA.out.its.at_ HB1.out) HA.out.nm).mono ?_
  rintro e w2 ⟨r, rfl, hr, hb2⟩
  have HB2 := Lib.hid (HB1.out.trans (hb2.mono HB1.out.size))
  have HR := Lib.hid hr
  clear hb2 hr
  cases r with
  | false =>
    go_wp2
    go_ret
    exact ⟨rfl, HB2.out⟩
  | true =>
    obtain ⟨hfew, hnm⟩ := HR.out rfl
    have hp : (⟨F, S, m, n, base⟩ : Pl).Ok := ⟨b0, b1, HA.out.num, hnm, by show n ≤ 4000; omega⟩
    have HP := Lib.hid hp
    clear hp hnm
    go_wp2_with fail
    refine (place_any ⟨F, S, m, n, base⟩ HP.out A cap As caps w2 (HG.out.below HB2.out HG.out.pos) (HA.out.its.at_ HB2.out) (HS.out.at_ HB2.out)).mono ?_
    rintro e w3 ⟨h3, hb3⟩
    have HB3 := Lib.hid (HB2.out.trans (hb3.mono HB2.out.size))
    have href := refPlace_any ⟨F, S, m, n, base⟩ HP.out A cap As caps w3 (HA.out.its.at_ HB3.out) (HS.out.at_ HB3.out)
    clear hb3
    rcases h3 with ⟨hall, g, rfl, hrow⟩ | ⟨k, hk, hlt, hw, b, rfl, hbb, hkk⟩
    · have HR3 := Lib.hid (row_words hrow)
      have HALL := Lib.hid hall
      clear hrow hall
      go_wp2_with fail
      refine href.mono ?_
      rintro e w4 ⟨h4, hb4⟩
      clear href
      rcases h4 with ⟨_, g4, cap4, rfl, hU⟩ | ⟨k, hk, _, hw, _⟩
      case inr => exact absurd (HALL.out k hk) hw
      have HB4 := Lib.hid (HB3.out.trans (hb4.mono HB3.out.size))
      have hk0 : Kept w4 0 0 0 .nilIface 35 #[.slice (some ⟨g, 0, none⟩) (n + 1) (n + 1), .slice (some ⟨g4, 0, none⟩) (n + 1) cap4] (w4.alloc (.cells #[.int .i64 0, .int .i64 0, .int .i64 0] 25)) :=
        ⟨Below.refl _ _, fun W' _ => fault_nil W', fun W' hb => words_same (Pl.at_ ⟨F, S, m, n, base⟩) _ _ (n + 1) _ _ (by omega) W' (((HR3.out.below hb4).below ((Below.refl _ _).alloc (Nat.le_refl _) _)).below hb) ((hU.below ((Below.refl _ _).alloc (Nat.le_refl _) _)).below hb)⟩
      clear hU hb4
      go_wp2_with fail
      have HK0 := Lib.hid hk0
      clear hk0
      go_region_held3 (fun W => W.cell? ⟨w4.heap.size, 0, none⟩ = some (.int .i64 0) ∧ W.cell? ⟨w4.heap.size, 1, none⟩ = some (.int .i64 0) ∧ W.cell? ⟨w4.heap.size, 2, none⟩ = some (.int .i64 0) ∧ Kept w4 0 0 0 .nilIface 35 #[.slice (some ⟨g, 0, none⟩) (n + 1) (n + 1), .slice (some ⟨g4, 0, none⟩) (n + 1) cap4] W)
        (first | exact ⟨HK0.out.drew.c0, HK0.out.drew.c1, HK0.out.drew.c2, HK0.out.drew⟩ | (go_split_ands; exact ⟨by assumption, by assumption, by assumption, by assumption⟩) | (go_split_ands; refine ⟨by assumption, by assumption, by assumption, Kept.drew (by assumption)⟩) | go_keep)
        (first | (go_at_call 20; go_split_ands; refine (kept_call (by assumption)).mono ?_; rintro e w5 ⟨rfl, c0, c1, c2, hk5⟩) | (go_at_call 35; go_split_ands; refine (kept_same (by assumption)).mono ?_; rintro e w5 ⟨rfl, c0, c1, c2, hk5⟩))
      all_goals (try go_wp2)
      all_goals go_ret
      all_goals exact ⟨rfl, HB4.out.trans (((Below.refl _ _).alloc HB4.out.size _).trans (hk5.below.mono (Nat.le_succ_of_le HB4.out.size)))⟩
    · have HK3 := Lib.hid hkk
      have HL3 := Lib.hid hlt
      have HW3 := Lib.hid hw
      clear hkk hlt hw
      go_wp2_with fail
      refine href.mono ?_
      rintro e w4 ⟨h4, hb4⟩
      clear href
      rcases h4 with ⟨hall, _⟩ | ⟨k4, hk4, hlt4, hw4, rfl⟩
      case inl => exact absurd (hall k hk) HW3.out
      obtain rfl : k4 = k := by
        rcases Nat.lt_trichotomy k4 k with h | h | h
        · exact absurd (HL3.out k4 h) hw4
        · exact h
        · exact absurd (hlt4 k h) HW3.out
      have HB4 := Lib.hid (HB3.out.trans (hb4.mono HB3.out.size))
      have HK4 := Lib.hid (HK3.out.below hb4 HK3.out.lt)
      obtain ⟨c1, c16⟩ := wrong_codes _ _ HW3.out
      have hk0 : Kept w4 (F k4).L (F k4).C (Pl.wrong ⟨F, S, m, n, base⟩ k4) (.iface 107 (.pointer (some ⟨b, 0, none⟩))) 35 #[.slice none 0 0, .slice none 0 0] (w4.alloc (.cells #[.int .i64 (F k4).L, .int .i64 (F k4).C, .int .i64 (Pl.wrong ⟨F, S, m, n, base⟩ k4)] 25)) :=
        ⟨Below.refl _ _, fun W' hb => fault_err b _ _ _ W' (((HG.out.below HB4.out HG.out.pos).alloc _).below hb (by simp)) c1 c16 ((HK4.out.alloc _).below hb (HK4.out.alloc _).lt), fun W' _ => words_same (fun _ => 0) none none 0 0 0 (by omega) W' (fun j hj => absurd hj (by omega)) (fun j hj => absurd hj (by omega))⟩
      clear hlt4 hw4 hb4
      go_wp2_with fail
      have HK0 := Lib.hid hk0
      clear hk0
      generalize hwv : Pl.wrong ⟨F, S, m, n, base⟩ k4 = wv at *
      clear hwv
      go_region_held3 (fun W => W.cell? ⟨w4.heap.size, 0, none⟩ = some (.int .i64 (F k4).L) ∧ W.cell? ⟨w4.heap.size, 1, none⟩ = some (.int .i64 (F k4).C) ∧ W.cell? ⟨w4.heap.size, 2, none⟩ = some (.int .i64 wv) ∧ Kept w4 (F k4).L (F k4).C wv (.iface 107 (.pointer (some ⟨b, 0, none⟩))) 35 #[.slice none 0 0, .slice none 0 0] W)
        (first | exact ⟨HK0.out.drew.c0, HK0.out.drew.c1, HK0.out.drew.c2, HK0.out.drew⟩ | (go_split_ands; exact ⟨by assumption, by assumption, by assumption, by assumption⟩) | (go_split_ands; refine ⟨by assumption, by assumption, by assumption, Kept.drew (by assumption)⟩) | go_keep)
        (first | (go_at_call 20; go_split_ands; refine (kept_call (by assumption)).mono ?_; rintro e w5 ⟨rfl, c0, c1, c2, hk5⟩) | (go_at_call 35; go_split_ands; refine (kept_same (by assumption)).mono ?_; rintro e w5 ⟨rfl, c0, c1, c2, hk5⟩))
      all_goals (try go_wp2)
      all_goals go_ret
      all_goals exact ⟨rfl, HB4.out.trans (((Below.refl _ _).alloc HB4.out.size _).trans (hk5.below.mono (Nat.le_succ_of_le HB4.out.size)))⟩
end Go.Proofs.YtbhfblogjlpnlabDoor
