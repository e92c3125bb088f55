/-
  An argument that is a slice of slices of tokens, opened: none, or a family of lines with their first tokens.
-/
import Derived.Test.YtccomiigdpfbpaaDoorOpen
import Derived.Test.YtccomiigdpfbpaaDoorWithin
namespace Go.Proofs.YtccomiigdpfbpaaDoor
open Go.ChangeShapes Go.WideShapes Go.RowKit Go.Deep

theorem Tryd.infoRowCells : Tryd.prog.cellsOf 35 = 1 := by kernel_rfl

structure LineData where
  A : Option Addr
  len : Nat
  cap : Nat
  K : Int
  L : Int
  C : Int
  S : ByteArray
  N : Int
  Sc : Int
instance : Inhabited LineData := ⟨⟨none, 0, 0, 0, 0, 0, ByteArray.empty, 0, 0⟩⟩

theorem open_lines {H : Type} {enc : TypeId × Value → H} {w : World} {base : Nat} {spare : Nat → Bool} {held : Bool} {fuel : Nat} {v : Value} {x : DataW H × List MemPlace} (h : DataW.trod enc Tryd.prog w base spare held fuel 22 [v] = some x) :
    ∃ A n cap, v = .slice A n cap ∧ (0 < n → ∃ B O F, A = some ⟨B, O, none⟩ ∧ Lns.In F w B O n) := by
  rcases open_slice1 Tryd.underlying22 Tryd.infoRowCells h with ⟨hcs, _⟩ | ⟨a, len, cap, m, n, V, D, Pl, hcs, _, hl, _, hm, _, hi⟩
  · exact ⟨none, 0, 0, by simpa using hcs, fun h => absurd h (by omega)⟩
  · refine ⟨some a, len, cap, by simpa using hcs, fun h0 => ?_⟩
    have hlm : len ≤ m := by rw [hm]; split <;> omega
    have hspot : a.spot = none := by
      have := World.cell?_spot (hi 0 (by omega)).1
      simpa [Addr.add] using this
    have hone_ : ∀ i, i < len → ∃ d : LineData, w.cell? ⟨a.block, a.off + i, none⟩ = some (.slice d.A d.len d.cap) ∧ (0 < d.len → ∃ b o, d.A = some ⟨b, o, none⟩ ∧ TokAt w b o d.K d.L d.C d.S d.N d.Sc) := by
      intro i hil
      obtain ⟨hc, ht⟩ := hi i (by omega)
      rw [addr_plain hspot] at hc
      obtain ⟨A', len', cap', hv, hT⟩ := open_toks ht
      by_cases hz : len' = 0
      · exact ⟨⟨A', len', cap', 0, 0, 0, ByteArray.empty, 0, 0⟩, by rw [hc, hv], fun h => absurd h (by simp [hz])⟩
      · obtain ⟨b, o, T, hA, hin⟩ := hT (by omega)
        have ht0 := hin 0 (by omega)
        simp only [Nat.zero_mul, Nat.add_zero] at ht0
        exact ⟨⟨A', len', cap', T.K 0, T.L 0, T.C 0, T.S 0, T.N 0, T.Sc 0⟩, by rw [hc, hv], fun _ => ⟨b, o, hA, ht0⟩⟩
    obtain ⟨f, hf⟩ := choose_lt hone_
    refine ⟨a.block, a.off, ⟨fun i => (f i).A, fun i => (f i).len, fun i => (f i).cap, fun i => (f i).K, fun i => (f i).L, fun i => (f i).C, fun i => (f i).S, fun i => (f i).N, fun i => (f i).Sc⟩, ?_, fun i hil => ⟨(hf i hil).1, (hf i hil).2⟩⟩
    cases a
    simp_all

/-- The law's premises on End, from an opened argument. -/
theorem endMeet_of {A : Option Addr} {n cap : Nat} {w : World} (h : 0 < n → ∃ B O F, A = some ⟨B, O, none⟩ ∧ Lns.In F w B O n) : ∃ F, EndMeet w (.slice A n cap) n (endSpec F n) := by
  by_cases h0 : n = 0
  · subst h0
    exact ⟨⟨fun _ => none, fun _ => 0, fun _ => 0, fun _ => 0, fun _ => 0, fun _ => 0, fun _ => ByteArray.empty, fun _ => 0, fun _ => 0⟩, endMeet_none _ A cap w⟩
  · obtain ⟨B, O, F, rfl, hF⟩ := h (by omega)
    exact ⟨F, endMeet_some F B O n cap w hF⟩
end Go.Proofs.YtccomiigdpfbpaaDoor
