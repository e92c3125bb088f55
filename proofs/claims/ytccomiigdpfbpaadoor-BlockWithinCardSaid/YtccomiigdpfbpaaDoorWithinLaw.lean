/-
  The law BlockWithin at an opened argument: it returns true. Conditions: the handle of the type error; the lines' cells, and their first tokens' cells, are there.
-/
import Derived.Test.YtccomiigdpfbpaaDoorOpen2
namespace Go.Proofs.YtccomiigdpfbpaaDoor
open Go.RowKit

theorem within_law (A : Option Addr) (n cap : Nat) (a b : Int) (w : World) (hg : Handle w) (h : 0 < n → ∃ B O F, A = some ⟨B, O, none⟩ ∧ Lns.In F w B O n) :
    Calls Tryd.prog 6 #[.slice A n cap, .int .i64 a, .int .i64 b] w fun e w' => e = .returned (.bool true) ∧ Below w.heap.size w w' := by
  obtain ⟨F, hm⟩ := endMeet_of (cap := cap) h
  exact within_any F A n cap a b w hg hm
end Go.Proofs.YtccomiigdpfbpaaDoor
