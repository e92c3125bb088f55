/-
  LexRemarks: a source or a remark that is too long, and the law. Conditions: as in the text that it imports.
-/
import Derived.Test.YtbhfblogjlpnlaaDoorLxRem
namespace Go.Proofs.YtbhfblogjlpnlaaDoor
open Go.RowKit

set_option maxRecDepth 100000 in
set_option maxHeartbeats 4000000 in
theorem rem_longA (n c m d : Nat) (A B : Option Addr) (X : Int) (hn : 1000 < n) (w : World) (hv : Vars w) : Calls Tryd.prog 8 #[.slice A n c, .slice B m d, .int .u8 X] w fun e w' => e = .returned (.bool true) ∧ Below w.heap.size w w' := by
  have HAW := Lib.hid (awake_any w hv)
  have g1 : (1000 : Int) < n := by omega
  have g3 : decide ((1000 : Int) < n) = true := decide_eq_true g1
  clear hv
  go_enter Tryd.func8, Tryd.ntmps8
  go_wp2_with fail
  refine HAW.out.mono ?_
  rintro e w1 ⟨rfl, hb1⟩
  have HB1 := Lib.hid hb1
  clear hb1
  go_wp2_with fail
  go_ret
  exact ⟨rfl, HB1.out⟩

set_option maxRecDepth 100000 in
set_option maxHeartbeats 4000000 in
theorem rem_longB (n c m d : Nat) (A B : Option Addr) (X : Int) (hn : n ≤ 1000) (hm : 100 < m) (w : World) (hv : Vars w) : Calls Tryd.prog 8 #[.slice A n c, .slice B m d, .int .u8 X] w fun e w' => e = .returned (.bool true) ∧ Below w.heap.size w w' := by
  have HAW := Lib.hid (awake_any w hv)
  have g1 : ¬ (1000 : Int) < n := by omega
  have g2 : (100 : Int) < m := by omega
  have g3 : decide ((1000 : Int) < n) = false := decide_eq_false g1
  have g4 : decide ((100 : Int) < m) = true := decide_eq_true g2
  clear hv
  go_enter Tryd.func8, Tryd.ntmps8
  go_wp2_with fail
  refine HAW.out.mono ?_
  rintro e w1 ⟨rfl, hb1⟩
  have HB1 := Lib.hid hb1
  clear hb1
  go_wp2_with fail
  go_ret
  exact ⟨rfl, HB1.out⟩

theorem u8_bounds {k : Int} (h : (Lit.int .u8 k).wf = true) : 0 ≤ k ∧ k < 256 := by
  simp [Lit.wf, IntKind.min, IntKind.max, IntKind.bits, IntKind.signed] at h
  omega

theorem rem_law (sa sb : ByteArray) (va vb : Value) (X : Int) (w : World) (hv : Vars w) (ha : SrcV w va sa) (hb : SrcV w vb sb) (hX : (Lit.int .u8 X).wf = true) : Calls Tryd.prog 8 #[va, vb, .int .u8 X] w fun e w' => e = .returned (.bool true) ∧ Below w.heap.size w w' := by
  obtain ⟨x0, x1⟩ := u8_bounds hX
  by_cases h1 : sa.size ≤ 1000
  · by_cases h2 : sb.size ≤ 100
    · exact rem_walk sa sb va vb X (X % 9) (X % 9 % 8).toNat w hv ha hb h1 h2 x0 x1 rfl (by omega)
    · obtain ⟨A, c, rfl, _⟩ := src_form ha
      obtain ⟨B, d, rfl, _⟩ := src_form hb
      exact rem_longB _ _ _ _ _ _ _ h1 (by omega) w hv
  · obtain ⟨A, c, rfl, _⟩ := src_form ha
    obtain ⟨B, d, rfl, _⟩ := src_form hb
    exact rem_longA _ _ _ _ _ _ _ (by omega) w hv
end Go.Proofs.YtbhfblogjlpnlaaDoor
