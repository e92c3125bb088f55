/-
  The contract of slices.reverseRangeOrdered at uint32: it permutes a part of the row. Condition: the row lies in the memory as SoBase says.
-/
import Derived.Test.YticfffndciddgaaSoBase
namespace Go.Proofs.Yticfffndciddgaa
open Go.RowKit Go.Sort

set_option maxRecDepth 100000 in
set_option maxHeartbeats 2000000 in
theorem rev_is {B g o : Nat} {w0 w : World} {d : Array Int} (h : Srt B w0 g o d w) (cap a b : Nat) (hab : a < b) (hb : b ≤ d.size) (hsz : d.size < 4611686018427387904) :
    Calls Try.prog 40 #[.slice (some ⟨g, o, none⟩) d.size cap, .int .i64 a, .int .i64 b] w fun e w' =>
      e = .returned (.tuple #[]) ∧ ∃ d', PermIn a b d d' ∧ Srt B w0 g o d' w' := by
  have HS := Lib.hid h
  clear h
  go_enter Try.func40, Try.ntmps40
  go_wp2
  go_loopg [6, 7] (b + 1) (fun k vi vj wr => ∃ (i j : Nat) (dk : Array Int), vi = .int .i64 i ∧ vj = .int .i64 j ∧ a ≤ i ∧ j < b ∧ i + j + 1 = a + b ∧ j ≤ k ∧ dk.size = d.size ∧ Hid (PermIn a b d dk ∧ Srt B w0 g o dk wr))
  case atStart => exact ⟨a, b - 1, d, rfl, by congr 1; omega, by omega, by omega, by omega, by omega, rfl, Lib.hid ⟨permIn_refl _ _ _, HS.out⟩⟩
  case round =>
    obtain ⟨i, j, dk, rfl, rfl, hai, hjb, hij, hk, hsk, HI⟩ := hrel
    obtain ⟨G, hG⟩ : ∃ G : Nat → Int, ∀ t, G t = dk[t]! := ⟨fun t => dk[t]!, fun _ => rfl⟩
    have HG := Lib.hid hG
    have hcw : ∀ t, t < d.size → wr.cell? ⟨g, o + t, none⟩ = some (.int .u32 (G t)) := fun t ht => by rw [hG]; exact HI.out.2.cell t (by omega)
    have hfw : ∀ t, t < d.size → wr.frozen? ⟨g, o + t, none⟩ = false := fun t ht => HI.out.2.free t (by omega)
    clear hG
    have HIJ := Lib.hid hij
    go_wp2
    · have hlt : i < j := by omega
      clear hij
      go_region
      all_goals go_wp2
      go_roundg (j - 1)
      case measure => omega
      case rel =>
        have := HIJ.out
        refine ⟨i + 1, j - 1, swp dk i j, by go_num, by congr 1; omega, by omega, by omega, by omega, by omega, by rw [swp_size]; exact hsk, Lib.hid ⟨permIn_trans _ _ _ _ _ HI.out.1 (swp_permIn _ _ _ _ _ (by omega) (by omega) (by omega) (by omega) (by omega)), ?_⟩⟩
        rw [HG.out, HG.out]
        exact (HI.out.2.drew _).swap (by omega) (by omega)
    · go_end0
      exact ⟨rfl, dk, HI.out.1, HI.out.2⟩
end Go.Proofs.Yticfffndciddgaa
