/-
  The law BlockBehind at opened arguments: it returns true. Conditions: the handle of the type error; the lines' cells, and their first tokens' cells, are there.
-/
import Derived.Test.YtccomiigdpfbpaaDoorBehind
namespace Go.Proofs.YtccomiigdpfbpaaDoor
open Go.ChangeShapes Go.WideShapes Go.RowKit Go.Deep

/-- The shape of a slice that reads as data. -/
theorem lines_shape {H : Type} {enc : TypeId × Value → H} {w : World} {base : Nat} {spare : Nat → Bool} {held : Bool} {fuel : Nat} {A : Option Addr} {n cap : Nat} {x : DataW H × List MemPlace} (h : DataW.trod enc Tryd.prog w base spare held fuel 22 [.slice A n cap] = some x) :
    n ≤ cap ∧ (A = none → n = 0 ∧ cap = 0) := by
  rcases open_slice Tryd.underlying22 h with ⟨hcs, _⟩ | ⟨a, len, cap', m, k, D, Pl, hcs, _, hl, _⟩
  · simp at hcs
    obtain ⟨rfl, rfl, rfl⟩ := hcs
    exact ⟨Nat.le_refl _, fun _ => ⟨rfl, rfl⟩⟩
  · simp at hcs
    obtain ⟨rfl, rfl, rfl⟩ := hcs
    exact ⟨hl, fun h => by cases h⟩

theorem behind_law (A : Option Addr) (n cap : Nat) (a : Int) (A2 : Option Addr) (m cap2 : Nat) (w : World) (hg : Handle w) (h : 0 < n → ∃ B O F, A = some ⟨B, O, none⟩ ∧ Lns.In F w B O n)
    (h2 : 0 < m → ∃ B O F, A2 = some ⟨B, O, none⟩ ∧ Lns.In F w B O m) (hs : n ≤ cap ∧ (A = none → n = 0 ∧ cap = 0)) (hs2 : m ≤ cap2 ∧ (A2 = none → m = 0 ∧ cap2 = 0)) :
    Calls Tryd.prog 5 #[.slice A n cap, .int .i64 a, .slice A2 m cap2] w fun e w' => e = .returned (.bool true) ∧ Below w.heap.size w w' := by
  have hF : ∃ F, EndMeet w (.slice A n cap) n (endSpec F n) ∧ (0 < n → ∃ B O, A = some ⟨B, O, none⟩ ∧ Lns.In F w B O n) := by
    by_cases h0 : n = 0
    · subst h0
      exact ⟨⟨fun _ => none, fun _ => 0, fun _ => 0, fun _ => 0, fun _ => 0, fun _ => 0, fun _ => ByteArray.empty, fun _ => 0, fun _ => 0⟩, endMeet_none _ A cap w, fun h => absurd h (by omega)⟩
    · obtain ⟨B, O, F, rfl, hF⟩ := h (by omega)
      exact ⟨F, endMeet_some F B O n cap w hF, fun _ => ⟨B, O, rfl, hF⟩⟩
  have hG : ∃ G, EndMeet w (.slice A2 m cap2) m (endSpec G m) ∧ MoreAt w A2 m cap2 G := by
    by_cases h0 : m = 0
    · subst h0
      refine ⟨⟨fun _ => none, fun _ => 0, fun _ => 0, fun _ => 0, fun _ => 0, fun _ => 0, fun _ => ByteArray.empty, fun _ => 0, fun _ => 0⟩, endMeet_none _ A2 cap2 w, ?_, hs2.2, 0, 0, fun i hi => absurd hi (by omega)⟩
      intro x _ j u hu
      simp [Lns.row] at hu
    · obtain ⟨B, O, G, rfl, hG⟩ := h2 (by omega)
      refine ⟨G, endMeet_some G B O m cap2 w hG, ?_, (fun h => by cases h), B, O, hG⟩
      intro x hx
      cases hx
      exact Lns.row_cells hG (Nat.le_refl _)
  obtain ⟨F, hm, hA⟩ := hF
  obtain ⟨G, hm2, hM⟩ := hG
  exact behind_any F G A A2 n cap m cap2 a w hg hm hm2 hs.1 hA hM
end Go.Proofs.YtccomiigdpfbpaaDoor
