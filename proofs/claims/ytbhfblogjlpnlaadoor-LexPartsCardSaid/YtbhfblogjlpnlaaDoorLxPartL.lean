/-
  LexParts: a source that is too long, and the law. Conditions: as in the text that it imports.
-/
import Derived.Test.YtbhfblogjlpnlaaDoorLxPart
namespace Go.Proofs.YtbhfblogjlpnlaaDoor
open Go.RowKit

set_option maxRecDepth 100000 in
set_option maxHeartbeats 4000000 in
theorem parts_longA (n c m d : Nat) (A B : Option Addr) (hn : 1000 < n) (w : World) (hv : Vars w) : Calls Tryd.prog 5 #[.slice A n c, .slice B m d] w fun e w' => e = .returned (.bool true) ∧ Below w.heap.size w w' := by
  have HAW := Lib.hid (awake_any w hv)
  have g1 : (1000 : Int) < n := by omega
  have g3 : decide ((1000 : Int) < n) = true := decide_eq_true g1
  clear hv
  go_enter Tryd.func5, Tryd.ntmps5
  go_wp2_with fail
  refine HAW.out.mono ?_
  rintro e w1 ⟨rfl, hb1⟩
  have HB1 := Lib.hid hb1
  clear hb1
  go_wp2_with fail
  go_ret
  exact ⟨rfl, HB1.out⟩

set_option maxRecDepth 100000 in
set_option maxHeartbeats 4000000 in
theorem parts_longB (n c m d : Nat) (A B : Option Addr) (hn : n ≤ 1000) (hm : 1000 < m) (w : World) (hv : Vars w) : Calls Tryd.prog 5 #[.slice A n c, .slice B m d] w fun e w' => e = .returned (.bool true) ∧ Below w.heap.size w w' := by
  have HAW := Lib.hid (awake_any w hv)
  have g1 : ¬ (1000 : Int) < n := by omega
  have g2 : (1000 : Int) < m := by omega
  have g3 : decide ((1000 : Int) < n) = false := decide_eq_false g1
  have g4 : decide ((1000 : Int) < m) = true := decide_eq_true g2
  clear hv
  go_enter Tryd.func5, Tryd.ntmps5
  go_wp2_with fail
  refine HAW.out.mono ?_
  rintro e w1 ⟨rfl, hb1⟩
  have HB1 := Lib.hid hb1
  clear hb1
  go_wp2_with fail
  go_ret
  exact ⟨rfl, HB1.out⟩

theorem parts_law (sa sb : ByteArray) (va vb : Value) (w : World) (hv : Vars w) (ha : SrcV w va sa) (hb : SrcV w vb sb) : Calls Tryd.prog 5 #[va, vb] w fun e w' => e = .returned (.bool true) ∧ Below w.heap.size w w' := by
  by_cases h1 : sa.size ≤ 1000
  · by_cases h2 : sb.size ≤ 1000
    · exact parts_walk sa sb va vb w hv ha hb h1 h2
    · obtain ⟨A, c, rfl, _⟩ := src_form ha
      obtain ⟨B, d, rfl, _⟩ := src_form hb
      exact parts_longB _ _ _ _ _ _ h1 (by omega) w hv
  · obtain ⟨A, c, rfl, _⟩ := src_form ha
    obtain ⟨B, d, rfl, _⟩ := src_form hb
    exact parts_longA _ _ _ _ _ _ (by omega) w hv
end Go.Proofs.YtbhfblogjlpnlaaDoor
