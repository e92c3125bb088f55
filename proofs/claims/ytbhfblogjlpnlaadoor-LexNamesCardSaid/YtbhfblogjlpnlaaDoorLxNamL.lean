/-
  LexNames: a source of nothing, a long source, and the law. Conditions: as in the text that it imports.
-/
import Derived.Test.YtbhfblogjlpnlaaDoorLxNam
import Derived.Test.YtbhfblogjlpnlaaDoorLxByt
namespace Go.Proofs.YtbhfblogjlpnlaaDoor
open Go.RowKit

set_option maxRecDepth 100000 in
set_option maxHeartbeats 4000000 in
theorem names_none (w : World) (hv : Vars w) : Calls Tryd.prog 4 #[.slice none 0 0] w fun e w' => e = .returned (.bool true) ∧ Below w.heap.size w w' := by
  have HAW := Lib.hid (awake_any w hv)
  have HV := Lib.hid hv
  have hcn := fun W => conv_none W
  clear hv
  go_enter Tryd.func4, Tryd.ntmps4
  go_wp2_with fail
  refine HAW.out.mono ?_
  rintro e w1 ⟨rfl, hb1⟩
  have HB1 := Lib.hid hb1
  clear hb1
  go_wp2_with fail
  refine (ilines_none w1).mono ?_
  rintro e w2 h2x
  obtain ⟨vL, x, rfl, hrd, _, hx0, _, hb2⟩ := ilines_gen (HV.out.below HB1.out) (fun a b c h => by cases h) h2x
  clear h2x
  have HB2 := Lib.hid (HB1.out.trans (hb2.mono HB1.out.size))
  clear hb2
  obtain rfl := hx0 rfl
  obtain ⟨A, cp, rfl, hcp, hrow⟩ := hrd.form
  obtain ⟨g, B, d, rfl, hRA⟩ := hrow 0 [] rfl
  have r0 : w2.cell? ⟨g, 0, none⟩ = some (.slice B 0 d) := hRA.row
  have hsh : (shown [[]] none).length = 1 := rfl
  rw [hsh] at hcp ⊢
  have hcp1 : (1 : Int) ≤ cp := by omega
  clear hx0 hrd hrow hRA
  go_wp2_with fail
  refine wp_loop_rounds 2 ?_
  rw [rounds_succ]
  go_wp2_with fail
  refine wp_loop_rounds 1 ?_
  rw [rounds_succ]
  go_wp2_with fail
  rw [rounds_succ]
  go_wp2_with fail
  go_ret
  exact ⟨rfl, HB2.out⟩

set_option maxRecDepth 100000 in
set_option maxHeartbeats 4000000 in
theorem names_long (n c : Nat) (A : Option Addr) (hn : 2000 < n) (w : World) (hv : Vars w) : Calls Tryd.prog 4 #[.slice A n c] w fun e w' => e = .returned (.bool true) ∧ Below w.heap.size w w' := by
  have HAW := Lib.hid (awake_any w hv)
  have g1 : (2000 : Int) < n := by omega
  clear hv
  go_enter Tryd.func4, Tryd.ntmps4
  go_wp2_with fail
  refine HAW.out.mono ?_
  rintro e w1 ⟨rfl, hb1⟩
  have HB1 := Lib.hid hb1
  clear hb1
  go_wp2_with fail
  go_ret
  exact ⟨rfl, HB1.out⟩

theorem names_law (s : ByteArray) (v : Value) (w : World) (hv : Vars w) (h : SrcV w v s) : Calls Tryd.prog 4 #[v] w fun e w' => e = .returned (.bool true) ∧ Below w.heap.size w w' := by
  rcases h with ⟨rfl, rfl⟩ | ⟨b, o, c, rfl, h2, h3, h4⟩
  · exact names_none w hv
  · by_cases hs : s.size ≤ 2000
    · exact names_some s b o c w hv hs h2 h3 h4
    · exact names_long s.size c _ (by omega) w hv
end Go.Proofs.YtbhfblogjlpnlaaDoor
