/-
  The contract of the reference's End, for all lines and places. Conditions: at most 4000 lines, whose cells, and whose first tokens' cells, are there.
-/
import Derived.Test.YtccomiigdpfbpaaDoorRef4
import Derived.Test.YtccomiigdpfbpaaDoorRef5
import Derived.Test.YtccomiigdpfbpaaDoorOpen2
namespace Go.Proofs.YtccomiigdpfbpaaDoor
open Go.RowKit

theorem ref_any (F : Lns) (B O n cap : Nat) (i : Int) (w : World) (hn : n ≤ 4000) (hF : F.In w B O n) :
    Calls Tryd.prog 10 #[.slice (some ⟨B, O, none⟩) n cap, .int .i64 i] w (RefOut w (endSpec F n i)) := by
  by_cases h : i < 0 ∨ (n : Int) ≤ i
  · exact ref_out F _ n cap i w h
  · have hs : endSpec F n i = if F.kind i.toNat = 1 ∨ F.kind i.toNat = 3 ∨ F.kind i.toNat = 5 then endRun F n i.toNat (i.toNat + 1) [((F.kind i.toNat : Int), -1)] else .bad (F.line i.toNat) (F.col i.toNat) := by
      unfold endSpec; rw [if_neg h]
    obtain ⟨k, rfl⟩ : ∃ k : Nat, i = k := ⟨i.toNat, by omega⟩
    rw [Int.toNat_natCast] at hs
    rw [hs]
    split
    · rename_i hk
      rcases hk with hk | hk | hk
      · exact ref_run1 F B O n cap k w hn hF (by omega) hk
      · exact ref_run3 F B O n cap k w hn hF (by omega) hk
      · exact ref_run5 F B O n cap k w hn hF (by omega) hk
    · rename_i hk
      exact ref_not F B O n cap k w hF (by omega) hk

def RefMeet (w : World) (v : Value) (n : Nat) (sp : Int → Res) : Prop :=
  n ≤ 600 → ∀ (i : Int) W, Below w.heap.size w W → Calls Tryd.prog 10 #[v, .int .i64 i] W (RefOut W (sp i))
theorem refMeet_none (F : Lns) (A : Option Addr) (cap : Nat) (w : World) : RefMeet w (.slice A 0 cap) 0 (endSpec F 0) := fun _ i W _ => ref_out F A 0 cap i W (by omega)
theorem refMeet_some (F : Lns) (B O n cap : Nat) (w : World) (hF : F.In w B O n) : RefMeet w (.slice (some ⟨B, O, none⟩) n cap) n (endSpec F n) := fun hn i W hb => ref_any F B O n cap i W (by omega) (hF.below hb)
theorem bothMeet_of {A : Option Addr} {n cap : Nat} {w : World} (h : 0 < n → ∃ B O F, A = some ⟨B, O, none⟩ ∧ Lns.In F w B O n) : ∃ F, EndMeet w (.slice A n cap) n (endSpec F n) ∧ RefMeet w (.slice A n cap) n (endSpec F n) := by
  by_cases h0 : n = 0
  · subst h0
    exact ⟨⟨fun _ => none, fun _ => 0, fun _ => 0, fun _ => 0, fun _ => 0, fun _ => 0, fun _ => ByteArray.empty, fun _ => 0, fun _ => 0⟩, endMeet_none _ A cap w, refMeet_none _ A cap w⟩
  · obtain ⟨B, O, F, rfl, hF⟩ := h (by omega)
    exact ⟨F, endMeet_some F B O n cap w hF, refMeet_some F B O n cap w hF⟩
end Go.Proofs.YtccomiigdpfbpaaDoor
