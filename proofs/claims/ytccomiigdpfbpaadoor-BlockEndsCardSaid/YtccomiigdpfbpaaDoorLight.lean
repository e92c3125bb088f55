/-
  The law's own light, on lines: it answers some bool, and false where there are more than 600 lines. Condition: the lines' cells are there.
-/
import Derived.Test.YtccomiigdpfbpaaDoorAwake2
import Derived.Test.YtccomiigdpfbpaaDoorNest
namespace Go.Proofs.YtccomiigdpfbpaaDoor
open Go.RowKit

/-- The answer of light. -/
def LightOut (w0 : World) (n : Nat) (e : Ending) (w' : World) : Prop := ∃ r, e = .returned (.bool r) ∧ (r = true → n ≤ 600) ∧ w0 = w'

set_option maxRecDepth 100000 in
theorem light_none (A : Option Addr) (cap : Nat) (w : World) : Calls Tryd.prog 8 #[.slice A 0 cap] w (LightOut w 0) := by
  go_enter Tryd.func8, Tryd.ntmps8
  go_wp2
  refine wp_loop_rounds 1 ?_
  rw [rounds_succ]
  go_wp2
  go_ret
  exact ⟨true, rfl, fun _ => by omega, rfl⟩

set_option maxRecDepth 100000 in
theorem light_long (A : Option Addr) (n cap : Nat) (w : World) (hn : 600 < n) : Calls Tryd.prog 8 #[.slice A n cap] w (LightOut w n) := by
  have h1 : (0 : Int) < n := by omega
  have h2 : ¬ (n : Int) ≤ 600 := by omega
  go_enter Tryd.func8, Tryd.ntmps8
  go_wp2
  refine wp_loop_rounds 1 ?_
  rw [rounds_succ]
  go_wp2
  go_ret
  exact ⟨_, rfl, (fun h => by simp at h; omega), rfl⟩

set_option maxRecDepth 100000 in
set_option maxHeartbeats 1000000 in
theorem light_short (F : Lns) (B O n cap : Nat) (w : World) (hF : F.In w B O n) (hn : n ≤ 600) : Calls Tryd.prog 8 #[.slice (some ⟨B, O, none⟩) n cap] w (LightOut w n) := by
  have HF := Lib.hid hF
  clear hF
  go_enter Tryd.func8, Tryd.ntmps8
  go_wp2
  go_loop [3, 4] (fun v i => ∃ (k : Nat) (x : Int), k ≤ n ∧ i = .int .i64 k ∧ v = .int .i64 x) (fun _ i => n - (intOf i).toNat)
  case atStart => exact ⟨0, n, by omega, rfl, rfl⟩
  case round =>
    obtain ⟨k, x, hk, rfl, rfl⟩ := hrel
    by_cases hlt : k < n
    · have hc := (HF.out k hlt).cell
      by_cases hx : x ≤ 600
      · go_wp2
        go_round
        case rel => exact ⟨k + 1, _, by omega, by go_num, rfl⟩
        case measure => simp [intOf]; omega
      · go_wp2
        go_ret
        exact ⟨_, rfl, fun _ => hn, rfl⟩
    · go_wp2
      go_ret
      exact ⟨_, rfl, fun _ => hn, rfl⟩

theorem light_any (F : Lns) (B O n cap : Nat) (w : World) (hF : F.In w B O n) : Calls Tryd.prog 8 #[.slice (some ⟨B, O, none⟩) n cap] w (LightOut w n) := by
  by_cases hn : n ≤ 600
  · exact light_short F B O n cap w hF hn
  · exact light_long _ n cap w (by omega)
end Go.Proofs.YtccomiigdpfbpaaDoor
