/-
  The contract of slices.partialInsertionSortOrdered at uint32. Conditions: the row lies in the memory as SoBase says; nothing in the part is less than what stands ahead of it.
-/
import Derived.Test.YticfffndciddgaaSoBase
import Derived.Deep.DeepCutAuto
import Derived.Deep.CutBlock
import Derived.Sort.LotD2
namespace Go.Proofs.Yticfffndciddgaa
open Go.RowKit Go.Sort

theorem sorted_swp {a i j k : Nat} {d : Array Int} (h : SortedIn ltInt a i d) (hj : i ≤ j) (hk : i ≤ k) : SortedIn ltInt a i (swp d j k) :=
  SortedIn.congr h (fun t _ h2 => swp_other d j k t (by omega) (by omega))

/-- What it answers: whether the part rises now. -/
def PartialOut (B : Nat) (w0 : World) (g o a b : Nat) (d : Array Int) (e : Ending) (w' : World) : Prop :=
  ∃ (r : Bool) (d' : Array Int), e = .returned (.bool r) ∧ PermIn a b d d' ∧ (r = true → SortedIn ltInt a b d') ∧ Srt B w0 g o d' w'
theorem PartialOut.mk {B : Nat} {w0 : World} {g o a b : Nat} {d : Array Int} {w' : World} (r : Bool) (d' : Array Int) (h1 : PermIn a b d d') (h2 : r = true → SortedIn ltInt a b d') (h3 : Srt B w0 g o d' w') : PartialOut B w0 g o a b d (.returned (.bool r)) w' := ⟨r, d', rfl, h1, h2, h3⟩

set_option maxRecDepth 100000 in
set_option maxHeartbeats 4000000 in
theorem partial_is {B g o : Nat} {w0 w : World} {d : Array Int} (h : Srt B w0 g o d w) (cap a b : Nat) (hab : a < b) (hb : b ≤ d.size) (hlow : Sort.Below ltInt a b d) (hsz : d.size < 4611686018427387904) :
    Calls Try.prog 41 #[.slice (some ⟨g, o, none⟩) d.size cap, .int .i64 a, .int .i64 b] w fun e w' =>
      PartialOut B w0 g o a b d e w' := by
  have HQ := Lib.hid h
  have HB := Lib.hid hlow
  clear h hlow
  go_enter Try.func41, Try.ntmps41
  go_upto_block 0 with fail
  refine wp_block ?_
  go_loopg [7, 8] 6 (fun k vi vj wx => ∃ (i n : Nat) (dk : Array Int), vi = .int .i64 i ∧ vj = .int .i64 n ∧ a < i ∧ i ≤ b ∧ n + k = 6 ∧ Hid (PermIn a b d dk ∧ SortedIn ltInt a i dk ∧ Srt B w0 g o dk wx))
  case atStart => exact ⟨a + 1, 0, d, by go_num, rfl, by omega, by omega, by omega, Lib.hid ⟨permIn_refl _ _ _, fun p q h1 h2 h3 => by omega, HQ.out⟩⟩
  case round =>
    obtain ⟨i0, n, dk, rfl, rfl, hai0, hib0, hn, HI⟩ := hrel
    have hsk : dk.size = d.size := HI.out.1.1
    by_cases hn5 : n < 5
    · have hn5i : (n : Int) < 5 := by omega
      obtain ⟨G, hG⟩ : ∃ G : Nat → Int, ∀ t, G t = dk[t]! := ⟨fun t => dk[t]!, fun _ => rfl⟩
      have HG := Lib.hid hG
      clear hG
      go_upto_block 2 with fail
      go_cut [7] (fun vi wx => ∃ (i : Nat), vi = .int .i64 i ∧ a < i ∧ i ≤ b ∧ Hid (SortedIn ltInt a i dk ∧ (i < b → ltInt dk[i]! dk[i - 1]! = true) ∧ Srt B w0 g o dk wx))
      case first =>
        refine wp_block ?_
        go_loopg [7] (b + 1) (fun k vi wx => ∃ (i : Nat), vi = .int .i64 i ∧ a < i ∧ i ≤ b ∧ b + 1 ≤ i + k ∧ Hid (SortedIn ltInt a i dk ∧ Srt B w0 g o dk wx))
        case atStart => exact ⟨i0, rfl, hai0, hib0, by omega, Lib.hid ⟨HI.out.2.1, HI.out.2.2⟩⟩
        case round =>
          obtain ⟨i, rfl, hai, hib, hk, HJ⟩ := hrel
          have hcw : ∀ t, t < d.size → wr.cell? ⟨g, o + t, none⟩ = some (.int .u32 (G t)) := fun t ht => by rw [HG.out]; exact HJ.out.2.cell t (by omega)
          go_wp2
          by_cases hlt : i < b
          · have hlti : (i : Int) < b := by omega
            go_quiet (first | (go_at_call 42; refine Calls.quiet_of_same (less_is _ _ _)))
            go_wp2
            · have hl : (!ltInt (G i) (G (i - 1))) = true := by assumption
              go_roundg (b - i)
              case measure => omega
              case rel => exact ⟨i + 1, by go_num, by omega, by omega, by omega, Lib.hid ⟨SortedIn.snoc swo_ltInt HJ.out.1 (by
                have h2 := hl
                rw [HG.out, HG.out] at h2
                simpa using h2), HJ.out.2.drew _⟩⟩
            · have hl : (!ltInt (G i) (G (i - 1))) = false := by assumption
              go_meet
              case rel => exact ⟨i, rfl, hai, hib, Lib.hid ⟨HJ.out.1, fun _ => by
                have h2 := hl
                rw [HG.out, HG.out] at h2
                simpa using h2, HJ.out.2.drew _⟩⟩
          · have hlti : ¬ (i : Int) < b := by omega
            go_quiet (first | (go_at_call 42; refine Calls.quiet_of_same (less_is _ _ _)))
            go_wp2
            go_meet
            case rel => exact ⟨i, rfl, hai, hib, Lib.hid ⟨HJ.out.1, fun h => absurd h hlt, HJ.out.2.drew _⟩⟩
      case rest =>
        obtain ⟨i, rfl, hai, hib, HJ⟩ := hcut
        by_cases hbi : i = b
        · have hbii : ((i : Int) == (b : Int)) = true := by rw [hbi]; simp
          go_wp2
          go_ret
          exact PartialOut.mk true dk HI.out.1 (fun _ => hbi ▸ HJ.out.1) HJ.out.2.2
        · have hbii : ((i : Int) == (b : Int)) = false := beq_eq_false_iff_ne.2 (by omega)
          by_cases h50 : b - a < 50
          · have h50i : (b : Int) - a < 50 := by omega
            go_wp2
            go_ret
            exact PartialOut.mk false dk HI.out.1 nofun HJ.out.2.2
          · have h50i : ¬ (b : Int) - a < 50 := by omega
            have hib2 : i < b := by omega
            go_upto_region 11 with fail
            have hcw : ∀ t, t < d.size → wc.cell? ⟨g, o + t, none⟩ = some (.int .u32 (G t)) := fun t ht => by rw [HG.out]; exact HJ.out.2.2.cell t (by omega)
            have hfw : ∀ t, t < d.size → wc.frozen? ⟨g, o + t, none⟩ = false := fun t ht => HJ.out.2.2.free t (by omega)
            go_cut [] (fun wx => Hid (Srt B w0 g o (swp dk i (i - 1)) wx))
            case first =>
              go_region
              all_goals go_wp2
              all_goals go_meet
              all_goals
                rw [HG.out, HG.out]
                exact Lib.hid ((HJ.out.2.2.drew _).swap (by omega) (by omega))
            case rest =>
              have HQ1 := hcut
              have HP1 : Hid (PermIn a b d (swp dk i (i - 1))) := Lib.hid (permIn_trans _ _ _ _ _ HI.out.1 (swp_permIn _ _ _ _ _ (by omega) (by omega) (by omega) (by omega) (by omega)))
              have HS1 : Hid (Ins ltInt a (i - 1) (i - 1) (swp dk i (i - 1))) := Lib.hid ⟨fun p q h1 h2 h3 h4 h5 => by
                rw [swp_other _ _ _ _ (by omega) (by omega), swp_other _ _ _ _ (by omega) (by omega)]
                exact HJ.out.1 p q h1 h2 (by omega), fun q h1 h2 => by omega⟩
              clear hcut hcw hfw HG G HJ
              obtain ⟨d1, hd1⟩ : ∃ d1, swp dk i (i - 1) = d1 := ⟨_, rfl⟩
              rw [hd1] at HQ1 HP1 HS1
              clear hd1 HI
              have hs1 : d1.size = d.size := HP1.out.1
              go_upto_if 61 with fail
              go_cut [] (fun wx => ∃ (d2 : Array Int), Hid (PermIn a b d d2 ∧ SortedIn ltInt a i d2 ∧ Srt B w0 g o d2 wx))
              case first =>
                by_cases h2 : 2 ≤ i - a
                · have h2i : (2 : Int) ≤ (i : Int) - a := by omega
                  go_wp2
                  go_loopg [9] (i + 1) (fun k vj wx => ∃ (j : Nat) (d2 : Array Int), vj = .int .i64 j ∧ a ≤ j ∧ j ≤ i - 1 ∧ j + 1 ≤ k ∧ Hid (PermIn a b d d2 ∧ Ins ltInt a j (i - 1) d2 ∧ Srt B w0 g o d2 wx))
                  case atStart => exact ⟨i - 1, d1, by congr 1; omega, by omega, by omega, by omega, Lib.hid ⟨HP1.out, HS1.out, HQ1.out⟩⟩
                  case round =>
                    obtain ⟨j, d2, rfl, haj, hji, hkj, HK⟩ := hrel
                    have hs2 : d2.size = d.size := HK.out.1.1
                    have HLOW : Hid (Sort.Below ltInt a b d2) := Lib.hid (HB.out.perm hb HK.out.1)
                    have hst : ∀ hs : j ≤ a ∨ ltInt d2[j]! d2[j - 1]! = false, SortedIn ltInt a i d2 := fun hs => by
                      have := Ins.stop swo_ltInt HK.out.2.1 hs
                      rwa [show i - 1 + 1 = i by omega] at this
                    have HST := Lib.hid hst
                    clear hst
                    obtain ⟨G, hG⟩ : ∃ G : Nat → Int, ∀ t, G t = d2[t]! := ⟨fun t => d2[t]!, fun _ => rfl⟩
                    have HG := Lib.hid hG
                    clear hG
                    have hcw : ∀ t, t < d.size → wr.cell? ⟨g, o + t, none⟩ = some (.int .u32 (G t)) := fun t ht => by rw [HG.out]; exact HK.out.2.2.cell t (by omega)
                    have hfw : ∀ t, t < d.size → wr.frozen? ⟨g, o + t, none⟩ = false := fun t ht => HK.out.2.2.free t (by omega)
                    by_cases hj1 : 1 ≤ j
                    · have hj1i : (1 : Int) ≤ j := by omega
                      go_wp2
                      go_quiet (first | (go_at_call 42; refine Calls.quiet_of_same (less_is _ _ _)))
                      go_wp2
                      · have hl : (!ltInt (G j) (G (j - 1))) = true := by assumption
                        go_meet
                        case rel => exact ⟨d2, Lib.hid ⟨HK.out.1, HST.out (.inr (by
                          have h2 := hl
                          rw [HG.out, HG.out] at h2
                          simpa using h2)), HK.out.2.2.drew _⟩⟩
                      · have hl : (!ltInt (G j) (G (j - 1))) = false := by assumption
                        have hl2 : ltInt d2[j]! d2[j - 1]! = true := by
                          have h2 := hl
                          rw [HG.out, HG.out] at h2
                          simpa using h2
                        have hja : a < j := by
                          rcases Nat.lt_or_ge a j with h | h
                          · exact h
                          · obtain rfl : j = a := by omega
                            rcases HLOW.out with h0 | h0
                            · omega
                            · have := h0 j (Nat.le_refl _) (by omega)
                              rw [hl2] at this
                              cases this
                        have HL2 := Lib.hid hl2
                        clear hl2
                        generalize hwq : wr.drewN nq = wq
                        have HQ2 : Hid (Srt B w0 g o d2 wq) := Lib.hid (hwq ▸ HK.out.2.2.drew _)
                        clear hwq hcw hfw
                        have hcw : ∀ t, t < d.size → wq.cell? ⟨g, o + t, none⟩ = some (.int .u32 (G t)) := fun t ht => by rw [HG.out]; exact HQ2.out.cell t (by omega)
                        have hfw : ∀ t, t < d.size → wq.frozen? ⟨g, o + t, none⟩ = false := fun t ht => HQ2.out.free t (by omega)
                        go_region
                        all_goals go_wp2
                        all_goals go_roundg j
                        all_goals first | omega | exact ⟨j - 1, swp d2 j (j - 1), by congr 1; omega, by omega, by omega, by omega, Lib.hid ⟨permIn_trans _ _ _ _ _ HK.out.1 (swp_permIn _ _ _ _ _ (by omega) (by omega) (by omega) (by omega) (by omega)), (by
                          have := Ins.step (j := j - 1) (by rw [show j - 1 + 1 = j by omega]; exact HK.out.2.1) (by rw [show j - 1 + 1 = j by omega]; exact HL2.out) (by omega) (by omega)
                          rwa [show j - 1 + 1 = j by omega] at this), (by
                          rw [HG.out, HG.out]
                          exact (HQ2.out.drew _).swap (by omega) (by omega))⟩⟩
                    · have hj1i : ¬ (1 : Int) ≤ j := by omega
                      go_wp2
                      go_meet
                      case rel => exact ⟨d2, Lib.hid ⟨HK.out.1, HST.out (.inl (by omega)), HK.out.2.2⟩⟩
                · have h2i : ¬ (2 : Int) ≤ (i : Int) - a := by omega
                  go_wp2
                  go_meet
                  case rel => exact ⟨d1, Lib.hid ⟨HP1.out, fun p q h1 h2 h3 => by omega, HQ1.out⟩⟩
              case rest =>
                obtain ⟨d2, HK⟩ := hcut
                clear HQ1 HP1 HS1
                go_upto_if 98 with fail
                by_cases h3 : 2 ≤ b - i
                · have h3i : (2 : Int) ≤ (b : Int) - i := by omega
                  go_wp2
                  go_loopg [10] (b + 1) (fun k vj wx => ∃ (j : Nat) (d3 : Array Int), vj = .int .i64 j ∧ i < j ∧ j ≤ b ∧ b + 1 ≤ j + k ∧ Hid (PermIn a b d d3 ∧ SortedIn ltInt a i d3 ∧ Srt B w0 g o d3 wx))
                  case atStart => exact ⟨i + 1, d2, by go_num, by omega, by omega, by omega, HK⟩
                  case round =>
                    obtain ⟨j, d3, rfl, hij, hjb, hkj, HM⟩ := hrel
                    have hs3 : d3.size = d.size := HM.out.1.1
                    obtain ⟨G, hG⟩ : ∃ G : Nat → Int, ∀ t, G t = d3[t]! := ⟨fun t => d3[t]!, fun _ => rfl⟩
                    have HG := Lib.hid hG
                    clear hG
                    have hcw : ∀ t, t < d.size → wr.cell? ⟨g, o + t, none⟩ = some (.int .u32 (G t)) := fun t ht => by rw [HG.out]; exact HM.out.2.2.cell t (by omega)
                    have hfw : ∀ t, t < d.size → wr.frozen? ⟨g, o + t, none⟩ = false := fun t ht => HM.out.2.2.free t (by omega)
                    by_cases hjlt : j < b
                    · have hjlti : (j : Int) < b := by omega
                      go_wp2
                      go_quiet (first | (go_at_call 42; refine Calls.quiet_of_same (less_is _ _ _)))
                      go_wp2
                      · go_roundg (5 - n)
                        case measure => omega
                        case rel => exact ⟨i, n + 1, d3, rfl, by go_num, hai, hib, by omega, Lib.hid ⟨HM.out.1, HM.out.2.1, HM.out.2.2.drew _⟩⟩
                      · generalize hwq : wr.drewN nq = wq
                        have HQ2 : Hid (Srt B w0 g o d3 wq) := Lib.hid (hwq ▸ HM.out.2.2.drew _)
                        clear hwq hcw hfw
                        have hcw : ∀ t, t < d.size → wq.cell? ⟨g, o + t, none⟩ = some (.int .u32 (G t)) := fun t ht => by rw [HG.out]; exact HQ2.out.cell t (by omega)
                        have hfw : ∀ t, t < d.size → wq.frozen? ⟨g, o + t, none⟩ = false := fun t ht => HQ2.out.free t (by omega)
                        go_region
                        all_goals go_wp2
                        all_goals go_roundg (b - j)
                        all_goals first | omega | exact ⟨j + 1, swp d3 j (j - 1), by go_num, by omega, by omega, by omega, Lib.hid ⟨permIn_trans _ _ _ _ _ HM.out.1 (swp_permIn _ _ _ _ _ (by omega) (by omega) (by omega) (by omega) (by omega)), sorted_swp HM.out.2.1 (by omega) (by omega), (by
                          rw [HG.out, HG.out]
                          exact (HQ2.out.drew _).swap (by omega) (by omega))⟩⟩
                    · have hjlti : ¬ (j : Int) < b := by omega
                      go_wp2
                      go_roundg (5 - n)
                      case measure => omega
                      case rel => exact ⟨i, n + 1, d3, rfl, by go_num, hai, hib, by omega, HM⟩
                · have h3i : ¬ (2 : Int) ≤ (b : Int) - i := by omega
                  go_wp2
                  go_roundg (5 - n)
                  case measure => omega
                  case rel => exact ⟨i, n + 1, d2, rfl, by go_num, hai, hib, by omega, HK⟩
    · have hn5i : ¬ (n : Int) < 5 := by omega
      go_wp2
      go_ret
      exact PartialOut.mk false dk HI.out.1 nofun HI.out.2.2
end Go.Proofs.Yticfffndciddgaa
