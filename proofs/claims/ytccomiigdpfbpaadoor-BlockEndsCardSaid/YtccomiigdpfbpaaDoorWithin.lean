/-
  The law BlockWithin, walked: it returns true. Conditions: the handle of the type error; the lines' cells, and their first tokens' cells, are there.
-/
import Derived.Test.YtccomiigdpfbpaaDoorLight
namespace Go.Proofs.YtccomiigdpfbpaaDoor
open Go.RowKit

/-- What a law over lines asks of End, in every world behind. -/
structure EndMeet (w : World) (v : Value) (n : Nat) (sp : Int → Res) : Prop where
  light : ∀ W, Below w.heap.size w W → Calls Tryd.prog 8 #[v] W (LightOut W n)
  fin : n ≤ 600 → ∀ (i : Int) W, Below w.heap.size w W → Handle W → Calls Tryd.prog 9 #[v, .int .i64 i] W (EndOut W (sp i))

theorem endMeet_none (F : Lns) (A : Option Addr) (cap : Nat) (w : World) : EndMeet w (.slice A 0 cap) 0 (endSpec F 0) where
  light W _ := light_none A cap W
  fin _ i W _ hg := end_out F A 0 cap i W hg (by omega)
theorem endMeet_some (F : Lns) (B O n cap : Nat) (w : World) (hF : F.In w B O n) : EndMeet w (.slice (some ⟨B, O, none⟩) n cap) n (endSpec F n) where
  light W hb := light_any F B O n cap W (hF.below hb)
  fin hn i W hb hg := end_any F B O n cap i W hg (by omega) (hF.below hb)

set_option maxRecDepth 100000 in
set_option maxHeartbeats 8000000 in
theorem within_any (F : Lns) (A : Option Addr) (n cap : Nat) (a b : Int) (w : World) (hg : Handle w) (hm : EndMeet w (.slice A n cap) n (endSpec F n)) :
    Calls Tryd.prog 6 #[.slice A n cap, .int .i64 a, .int .i64 b] w fun e w' => e = .returned (.bool true) ∧ Below w.heap.size w w' := by
  have haw := awake_any w hg
  go_enter Tryd.func6, Tryd.ntmps6
  go_wp2_with fail
  refine haw.mono ?_
  rintro e w1 ⟨rfl, hb1⟩
  clear haw
  have hlt := hm.light w1 hb1
  go_wp2_with fail
  refine hlt.mono ?_
  rintro e w' ⟨r, rfl, hr, rfl⟩
  clear hlt
  cases r with
  | false =>
    clear hr
    go_wp2
    go_ret
    exact ⟨rfl, hb1⟩
  | true =>
    have hn := hr rfl
    clear hr
    have hE := hm.fin hn a w1 hb1 (hg.below hb1 hg.pos)
    have HB1 := Lib.hid hb1
    clear hb1
    go_wp2_with fail
    refine hE.mono ?_
    clear hE
    rintro e w2 h2
    cases hs : endSpec F n a with
    | bad L C =>
      rw [hs] at h2
      obtain ⟨bb, rfl, hbb, _, hb2⟩ := h2
      have HB2 : Hid (Below w.heap.size w w2) := HB1.out.trans (hb2.mono HB1.out.size)
      clear hs hb2 hbb
      go_wp2
      go_ret
      exact ⟨rfl, HB2.out⟩
    | ok K o =>
      rw [hs] at h2
      obtain ⟨rfl, hb2⟩ := h2
      have hb2' : Below w.heap.size w w2 := HB1.out.trans (hb2.mono HB1.out.size)
      have hp := endSpec_place hs
      have hw := fun (hab : a < b) (hbK : b < K) (k2 : Nat) (o2 : Int) (h2 : endSpec F n b = .ok k2 o2) => endSpec_within hs hab hbK h2
      have hE2 := hm.fin hn b w2 hb2' (hg.below hb2' hg.pos)
      have HB2 := Lib.hid hb2'
      have HW := Lib.hid hw
      have hoth : (o != -1) = false ∨ ((o != -1) = true ∧ ¬ o ≤ a ∧ ¬ (K : Int) ≤ o) := by
        rcases hp.2.2.2 with h | h
        · left; simp [h]
        · right; exact ⟨by rw [bne_iff_ne]; omega, by omega, by omega⟩
      have hp1 : ¬ (K : Int) ≤ a := by omega
      have hp2 : ¬ (n : Int) ≤ K := by omega
      clear hs hb2 hb2' hp hw
      rcases hoth with ho | ⟨ho, ho1, ho2⟩
      all_goals
        go_wp2_with fail
        refine hE2.mono ?_
        clear hE2
        rintro e w3 h3
        cases hs2 : endSpec F n b with
        | bad L C =>
          rw [hs2] at h3
          obtain ⟨bb, rfl, hbb, _, hb3⟩ := h3
          have HB3 : Hid (Below w.heap.size w w3) := HB2.out.trans (hb3.mono HB2.out.size)
          clear hs2 hb3 hbb
          go_wp2
          go_ret
          exact ⟨rfl, HB3.out⟩
        | ok k2 o2 =>
          rw [hs2] at h3
          obtain ⟨rfl, hb3⟩ := h3
          have HB3 : Hid (Below w.heap.size w w3) := HB2.out.trans (hb3.mono HB2.out.size)
          have HS := Lib.hid hs2
          clear hs2 hb3
          by_cases hab : b ≤ a
          · go_wp2
            go_ret
            exact ⟨rfl, HB3.out⟩
          · by_cases hbK : (K : Int) ≤ b
            · go_wp2
              go_ret
              exact ⟨rfl, HB3.out⟩
            · have hk : (k2 : Int) < K := by have := HW.out (by omega) (by omega) k2 o2 HS.out; omega
              go_wp2
              go_ret
              exact ⟨rfl, HB3.out⟩
end Go.Proofs.YtccomiigdpfbpaaDoor
