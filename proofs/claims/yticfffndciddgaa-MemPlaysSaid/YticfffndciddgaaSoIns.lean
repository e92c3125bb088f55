/-
  The contract of slices.insertionSortOrdered at uint32: it permutes a part of the row so that it rises. Condition: the row lies in the memory as SoBase says.
-/
import Derived.Test.YticfffndciddgaaSoBase
namespace Go.Proofs.Yticfffndciddgaa
open Go.RowKit Go.Sort

set_option maxRecDepth 100000 in
set_option maxHeartbeats 2000000 in
theorem ins_is {B g o : Nat} {w0 w : World} {d : Array Int} (h : Srt B w0 g o d w) (cap a b : Nat) (hab : a ≤ b) (hb : b ≤ d.size) (hsz : d.size < 4611686018427387904) :
    Calls Try.prog 36 #[.slice (some ⟨g, o, none⟩) d.size cap, .int .i64 a, .int .i64 b] w fun e w' =>
      e = .returned (.tuple #[]) ∧ ∃ d', PermIn a b d d' ∧ SortedIn ltInt a b d' ∧ Srt B w0 g o d' w' := by
  have HS := Lib.hid h
  clear h
  go_enter Try.func36, Try.ntmps36
  go_wp2
  go_loopg [6] (b + 1 - a) (fun k vi wr => ∃ (i : Nat) (dk : Array Int), vi = .int .i64 i ∧ a < i ∧ i ≤ b + 1 ∧ b + 1 ≤ i + k ∧ Hid (PermIn a b d dk ∧ SortedIn ltInt a i dk ∧ Srt B w0 g o dk wr))
  case atStart => exact ⟨a + 1, d, by go_num, by omega, by omega, by omega, Lib.hid ⟨permIn_refl _ _ _, fun p q h1 h2 h3 => by omega, HS.out⟩⟩
  case round =>
    obtain ⟨i, dk, rfl, hai, hib, hk, HI⟩ := hrel
    have hsk : dk.size = d.size := HI.out.1.1
    go_wp2
    · have hlt : i < b := by assumption
      go_loopg [7] (i + 1) (fun k vj wx => ∃ (j : Nat) (dj : Array Int), vj = .int .i64 j ∧ a ≤ j ∧ j ≤ i ∧ j + 1 ≤ k ∧ Hid (PermIn a b d dj ∧ Ins ltInt a j i dj ∧ Srt B w0 g o dj wx))
      case atStart => exact ⟨i, dk, rfl, by omega, Nat.le_refl _, Nat.le_refl _, Lib.hid ⟨HI.out.1, ⟨fun p q h1 h2 h3 h4 h5 => HI.out.2.1 p q h1 h2 (by omega), fun q h1 h2 => by omega⟩, HI.out.2.2⟩⟩
      case round =>
        obtain ⟨j, dj, rfl, haj, hji, hkj, HJ⟩ := hrel
        have hsj : dj.size = d.size := HJ.out.1.1
        obtain ⟨G, hG⟩ : ∃ G : Nat → Int, ∀ t, G t = dj[t]! := ⟨fun t => dj[t]!, fun _ => rfl⟩
        have HG := Lib.hid hG
        have hcw : ∀ t, t < d.size → wr.cell? ⟨g, o + t, none⟩ = some (.int .u32 (G t)) := fun t ht => by rw [hG]; exact HJ.out.2.2.cell t (by omega)
        have hfw : ∀ t, t < d.size → wr.frozen? ⟨g, o + t, none⟩ = false := fun t ht => HJ.out.2.2.free t (by omega)
        clear hG
        have hgo : (j ≤ a ∨ ltInt (G j) (G (j - 1)) = false) → SortedIn ltInt a (i + 1) dj := fun hs => Ins.stop swo_ltInt HJ.out.2.1 (by rw [← HG.out, ← HG.out]; exact hs)
        have HGO := Lib.hid hgo
        clear hgo
        go_wp2
        by_cases hja : a < j
        · go_quiet (first | (go_at_call 42; refine Calls.quiet_of_same (less_is _ _ _)))
          go_wp2
          · have hl : ltInt (G j) (G (j - 1)) = true := by assumption
            go_region
            all_goals go_wp2
            go_roundg j
            case measure => omega
            case rel =>
              refine ⟨j - 1, swp dj j (j - 1), by congr 1; omega, by omega, by omega, by omega, Lib.hid ⟨permIn_trans _ _ _ _ _ HJ.out.1 (swp_permIn _ _ _ _ _ (by omega) (by omega) (by omega) (by omega) (by omega)), ?_, ?_⟩⟩
              · have hl2 := hl
                rw [HG.out, HG.out] at hl2
                have := Ins.step (j := j - 1) (by rw [show j - 1 + 1 = j by omega]; exact HJ.out.2.1) (by rw [show j - 1 + 1 = j by omega]; exact hl2) (by omega) (by omega)
                rwa [show j - 1 + 1 = j by omega] at this
              · rw [HG.out, HG.out]
                exact (HJ.out.2.2.drew _).swap (by omega) (by omega)
          · have hl : ltInt (G j) (G (j - 1)) = false := by assumption
            go_roundg (b - i)
            case measure => omega
            case rel => exact ⟨i + 1, dj, by go_num, by omega, by omega, by omega, Lib.hid ⟨HJ.out.1, HGO.out (.inr hl), HJ.out.2.2.drew _⟩⟩
        · go_quiet (first | (go_at_call 42; refine Calls.quiet_of_same (less_is _ _ _)))
          go_wp2
          go_roundg (b - i)
          case measure => omega
          case rel => exact ⟨i + 1, dj, by go_num, by omega, by omega, by omega, Lib.hid ⟨HJ.out.1, HGO.out (.inl (by omega)), HJ.out.2.2.drew _⟩⟩
    · have hge : ¬ i < b := by assumption
      go_end0
      exact ⟨rfl, dk, HI.out.1, fun p q h1 h2 h3 => HI.out.2.1 p q h1 h2 (by omega), HI.out.2.2⟩
end Go.Proofs.Yticfffndciddgaa
