/-
  The contract of the reference's Parts, of any tokens.
-/
import Derived.Test.YtbhfblogjlpnlabDoorMacRParts
namespace Go.Proofs.YtbhfblogjlpnlabDoor
open Go.RowKit

set_option maxRecDepth 100000 in
set_option maxHeartbeats 1000000 in
theorem rparts_zero (A : Option Addr) (c : Nat) (w : World) : Calls Tryd.prog 23 #[.slice A 0 c] w fun e w' => e = .returned (.slice none 0 0) ∧ Below w.heap.size w w' := by
  go_enter Tryd.func23, Tryd.ntmps23
  go_wp2_with fail
  go_ret
  exact ⟨rfl, Below.refl _ _⟩

theorem rparts_is (ts : List Tk6) (v : Value) (pss : List (List Tk6)) (w : World) (hn : ts.length ≤ 100000) (hv : Toks w v ts) (hp : PartsOf ts pss) :
    Calls Tryd.prog 23 #[v] w fun e w' => (∃ v us, e = .returned v ∧ w'.ownsRow w.heap.size 30 1 v pss.length us ∧ RowsAt w' w.heap.size us pss) ∧ Below w.heap.size w w' := by
  rcases hp with ⟨rfl, rfl⟩ | ⟨h0, hp⟩
  · obtain ⟨A, c, rfl, _⟩ := hv.form
    refine (rparts_zero A c w).mono ?_
    rintro e w' ⟨rfl, hb⟩
    exact ⟨⟨_, [], rfl, World.ownsRow_nil _ _ _ _, ⟨rfl, fun i ps h => by simp at h⟩⟩, hb⟩
  · have hv' := hv
    rcases hv with ⟨_, _, _, _, rfl⟩ | ⟨b, o, c, rfl, h2, h3, _, h5⟩
    · simp at h0
    · exact rparts_some ts b o c pss w h0 hn h2 h3 hv' (cellsOf_at ts w b o h5) hp
end Go.Proofs.YtbhfblogjlpnlabDoor
