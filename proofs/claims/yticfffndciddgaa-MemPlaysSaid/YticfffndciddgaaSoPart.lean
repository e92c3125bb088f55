/-
  The contract of slices.partitionOrdered at uint32. Condition: the row lies in the memory as SoBase says.
-/
import Derived.Test.YticfffndciddgaaSoBase
import Derived.Deep.DeepCutAuto
import Derived.Deep.CutBlock
import Derived.Sort.LotC
namespace Go.Proofs.Yticfffndciddgaa
open Go.RowKit Go.Sort

theorem part_end {a b j : Nat} {d dk : Array Int} (hP : PermIn a b d dk) (haj : a ≤ j) (hjb : j < b) (hb : b ≤ d.size) (L : ∀ t, a < t → t ≤ j → ltInt dk[t]! dk[a]! = true) (R : ∀ t, j < t → t < b → ltInt dk[t]! dk[a]! = false) :
    PermIn a b d (swp dk j a) ∧ (∀ i, a ≤ i → i < j → ltInt (swp dk j a)[i]! (swp dk j a)[j]! = true) ∧ (∀ i, j < i → i < b → ltInt (swp dk j a)[i]! (swp dk j a)[j]! = false) := by
  have hs : dk.size = d.size := hP.1
  have hjj : (swp dk j a)[j]! = dk[a]! := by
    rw [swp_get dk (by omega) (by omega)]
    by_cases h : j = a
    · rw [if_pos h, h]
    · rw [if_neg h, if_pos rfl]
  refine ⟨permIn_trans _ _ _ _ _ hP (swp_permIn _ _ _ _ _ haj hjb (Nat.le_refl _) (by omega) (by omega)), fun i h1 h2 => ?_, fun i h1 h2 => ?_⟩
  · rw [hjj, swp_get dk (by omega) (by omega)]
    by_cases h : i = a
    · rw [if_pos h]; exact L j (by omega) (Nat.le_refl _)
    · rw [if_neg h, if_neg (by omega)]; exact L i (by omega) (by omega)
  · rw [hjj, swp_get dk (by omega) (by omega), if_neg (by omega), if_neg (by omega)]
    exact R i h1 h2

/-- Where the two scans stand. -/
structure PInv (a b : Nat) (d dk : Array Int) (i j : Nat) : Prop where
  perm : PermIn a b d dk
  L : ∀ t, a < t → t < i → ltInt dk[t]! dk[a]! = true
  R : ∀ t, j < t → t < b → ltInt dk[t]! dk[a]! = false
theorem PInv.swap {a b i j : Nat} {d dk : Array Int} (h : PInv a b d dk i j) (ha : a < i) (hlt : i < j) (hjb : j < b) (hb : b ≤ d.size) (fi : ltInt dk[i]! dk[a]! = false) (fj : ltInt dk[j]! dk[a]! = true) : PInv a b d (swp dk i j) (i + 1) (j - 1) := by
  have hs : dk.size = d.size := h.perm.1
  obtain ⟨r1, r2, r3, r4⟩ := round_swap (fun x => ltInt x dk[a]!) dk a b i j ha hlt hjb (by omega) h.L h.R fi fj
  exact ⟨permIn_trans _ _ _ _ _ h.perm (permIn_mono _ _ (a + 1) b a b (by omega) (Nat.le_refl _) (by omega) r4), by rw [r1]; exact r2, by rw [r1]; exact r3⟩

set_option maxRecDepth 100000 in
set_option maxHeartbeats 4000000 in
theorem part_is {B g o : Nat} {w0 w : World} {d : Array Int} (h : Srt B w0 g o d w) (cap a b p : Nat) (hap : a ≤ p) (hpb : p < b) (hb : b ≤ d.size) (hsz : d.size < 4611686018427387904) :
    Calls Try.prog 44 #[.slice (some ⟨g, o, none⟩) d.size cap, .int .i64 a, .int .i64 b, .int .i64 p] w fun e w' =>
      ∃ (m : Nat) (al : Bool) (d' : Array Int), e = .returned (.tuple #[.int .i64 m, .bool al]) ∧ a ≤ m ∧ m < b ∧ PermIn a b d d' ∧ (∀ i, a ≤ i → i < m → ltInt d'[i]! d'[m]! = true) ∧ (∀ i, m < i → i < b → ltInt d'[i]! d'[m]! = false) ∧ Srt B w0 g o d' w' := by
  obtain ⟨e, rfl⟩ : ∃ e, b = e + 1 := ⟨b - 1, by omega⟩
  have HQ := Lib.hid h
  clear h
  obtain ⟨G, hG⟩ : ∃ G : Nat → Int, ∀ t, G t = d[t]! := ⟨fun t => d[t]!, fun _ => rfl⟩
  have HG := Lib.hid hG
  clear hG
  have hcw : ∀ t, t < d.size → w.cell? ⟨g, o + t, none⟩ = some (.int .u32 (G t)) := fun t ht => by rw [HG.out]; exact HQ.out.cell t (by omega)
  have hfw : ∀ t, t < d.size → w.frozen? ⟨g, o + t, none⟩ = false := fun t ht => HQ.out.free t (by omega)
  go_enter Try.func44, Try.ntmps44
  go_upto_region 1 with fail
  go_cut [] (fun wx => Hid (Srt B w0 g o (swp d a p) wx))
  case first =>
    have hisz : a < d.size := by omega
    have hjsz : p < d.size := by omega
    rcases Nat.lt_or_eq_of_le (show a ≤ p by omega) with hne | heq
    · go_region
      all_goals go_wp2
      all_goals go_meet
      all_goals
        rw [HG.out, HG.out]
        exact Lib.hid ((HQ.out.drew _).swap (by omega) (by omega))
    · subst heq
      go_region
      all_goals go_wp2
      all_goals go_meet
      all_goals
        rw [HG.out]
        exact Lib.hid ((HQ.out.drew _).swap (by omega) (by omega))
  case rest =>
    have hd1 : PermIn a (e + 1) d (swp d a p) := swp_permIn _ _ _ _ _ (Nat.le_refl _) (by omega) hap hpb hb
    clear hcw hfw HQ
    obtain ⟨dk, hdk⟩ : ∃ dk, swp d a p = dk := ⟨_, rfl⟩
    rw [hdk] at hd1 hcut
    clear hdk HG G
    have HP := Lib.hid hd1
    have hsk : dk.size = d.size := hd1.1
    clear hd1
    have HQ := hcut
    clear hcut
    obtain ⟨G, hG⟩ : ∃ G : Nat → Int, ∀ t, G t = dk[t]! := ⟨fun t => dk[t]!, fun _ => rfl⟩
    have HG := Lib.hid hG
    clear hG
    go_upto_region 2 with fail
    go_cut [10, 11] (fun vi vj wx => vi = .int .i64 ((a : Int) + 1) ∧ vj = .int .i64 (e : Int) ∧ wx = wc)
    case first =>
      go_wp2
      go_meet
      case rel => exact ⟨by first | rfl | (congr 1; omega), by first | rfl | (congr 1; omega), rfl⟩
    obtain ⟨rfl, rfl, rfl⟩ := hcut
    go_upto_block 0 with fail
    go_cut [10] (fun vi wx => ∃ (i : Nat), vi = .int .i64 i ∧ (a + 1) ≤ i ∧ i ≤ e + 1 ∧ Hid ((∀ t, (a + 1) ≤ t → t < i → ltInt dk[t]! dk[a]! = true) ∧ (i ≤ e → ltInt dk[i]! dk[a]! = false) ∧ Srt B w0 g o dk wx))
    case first =>
      refine wp_block ?_
      go_loopg [10] (e + 2) (fun k vi wx => ∃ (i : Nat), vi = .int .i64 i ∧ (a + 1) ≤ i ∧ i ≤ e + 1 ∧ e + 2 ≤ i + k ∧ Hid ((∀ t, (a + 1) ≤ t → t < i → ltInt dk[t]! dk[a]! = true) ∧ Srt B w0 g o dk wx))
      case atStart => exact ⟨(a + 1), by go_num, Nat.le_refl _, by omega, by omega, Lib.hid ⟨fun t h1 h2 => by omega, HQ.out⟩⟩
      case round =>
        obtain ⟨i, rfl, hi0, hij, hk, HI⟩ := hrel
        have hcw : ∀ t, t < d.size → wr.cell? ⟨g, o + t, none⟩ = some (.int .u32 (G t)) := fun t ht => by rw [HG.out]; exact HI.out.2.cell t (by omega)
        go_wp2
        by_cases hle : i ≤ e
        · have hlei : (i : Int) ≤ (e : Nat) := by omega
          go_quiet (first | (go_at_call 42; refine Calls.quiet_of_same (less_is _ _ _)))
          go_wp2
          · have hl : ltInt (G i) (G a) = true := by assumption
            go_roundg (e + 1 - i)
            case measure => omega
            case rel => exact ⟨i + 1, by go_num, by omega, by omega, by omega, Lib.hid ⟨fun t h1 h2 => by
              rcases Nat.lt_or_ge t i with h | h
              · exact HI.out.1 t h1 h
              · obtain rfl : t = i := by omega
                have := hl
                rw [HG.out, HG.out] at this
                exact this, HI.out.2.drew _⟩⟩
          · have hl : ltInt (G i) (G a) = false := by assumption
            go_meet
            case rel => exact ⟨i, rfl, by omega, by omega, Lib.hid ⟨HI.out.1, fun _ => by
              have := hl
              rw [HG.out, HG.out] at this
              exact this, HI.out.2.drew _⟩⟩
        · have hlei : ¬ (i : Int) ≤ (e : Nat) := by omega
          go_quiet (first | (go_at_call 42; refine Calls.quiet_of_same (less_is _ _ _)))
          go_wp2
          go_meet
          case rel => exact ⟨i, rfl, by omega, by omega, Lib.hid ⟨HI.out.1, fun h => absurd h hle, HI.out.2.drew _⟩⟩
    case rest =>
      obtain ⟨i, rfl, hi1, hi2, HU⟩ := hcut
      clear HQ
      have HQ : Hid (Srt B w0 g o dk wc) := Lib.hid HU.out.2.2
      go_upto_block 2 with fail
      go_cut [11] (fun vj wx => ∃ (j : Nat), vj = .int .i64 j ∧ j ≤ e ∧ i ≤ j + 1 ∧ Hid ((∀ t, j < t → t ≤ e → ltInt dk[t]! dk[a]! = false) ∧ (i ≤ j → ltInt dk[j]! dk[a]! = true) ∧ Srt B w0 g o dk wx))
      case first =>
        refine wp_block ?_
        go_loopg [11] (e + 1) (fun k vj wx => ∃ (j : Nat), vj = .int .i64 j ∧ j ≤ e ∧ i ≤ j + 1 ∧ j + 1 ≤ k ∧ Hid ((∀ t, j < t → t ≤ e → ltInt dk[t]! dk[a]! = false) ∧ Srt B w0 g o dk wx))
        case atStart => exact ⟨e, rfl, Nat.le_refl _, by omega, Nat.le_refl _, Lib.hid ⟨fun t h1 h2 => by omega, HQ.out⟩⟩
        case round =>
          obtain ⟨j, rfl, hj0, hij, hk, HI⟩ := hrel
          have hcw : ∀ t, t < d.size → wr.cell? ⟨g, o + t, none⟩ = some (.int .u32 (G t)) := fun t ht => by rw [HG.out]; exact HI.out.2.cell t (by omega)
          go_wp2
          by_cases hle : i ≤ j
          · have hlei : ((i : Nat) : Int) ≤ j := by omega
            go_quiet (first | (go_at_call 42; refine Calls.quiet_of_same (less_is _ _ _)))
            go_wp2
            · have hl : (!ltInt (G j) (G a)) = true := by assumption
              go_roundg j
              case measure => omega
              case rel => exact ⟨j - 1, by congr 1; omega, by omega, by omega, by omega, Lib.hid ⟨fun t h1 h2 => by
                rcases Nat.lt_or_ge j t with h | h
                · exact HI.out.1 t h h2
                · obtain rfl : t = j := by omega
                  have := hl
                  rw [HG.out, HG.out] at this
                  simpa using this, HI.out.2.drew _⟩⟩
            · have hl : (!ltInt (G j) (G a)) = false := by assumption
              go_meet
              case rel => exact ⟨j, rfl, by omega, by omega, Lib.hid ⟨HI.out.1, fun _ => by
                have := hl
                rw [HG.out, HG.out] at this
                simpa using this, HI.out.2.drew _⟩⟩
          · have hlei : ¬ ((i : Nat) : Int) ≤ j := by omega
            go_quiet (first | (go_at_call 42; refine Calls.quiet_of_same (less_is _ _ _)))
            go_wp2
            go_meet
            case rel => exact ⟨j, rfl, by omega, by omega, Lib.hid ⟨HI.out.1, fun h => absurd h hle, HI.out.2.drew _⟩⟩
      case rest =>
        obtain ⟨j, rfl, hj1, hj2, HD⟩ := hcut
        clear HQ
        have HQ : Hid (Srt B w0 g o dk wc) := Lib.hid HD.out.2.2
        have HI : Hid (PInv a (e + 1) d dk i j) := Lib.hid ⟨HP.out, fun t h1 h2 => HU.out.1 t h1 h2, fun t h1 h2 => HD.out.1 t h1 (by omega)⟩
        have hcw : ∀ t, t < d.size → wc.cell? ⟨g, o + t, none⟩ = some (.int .u32 (G t)) := fun t ht => by rw [HG.out]; exact HQ.out.cell t (by omega)
        have hfw : ∀ t, t < d.size → wc.frozen? ⟨g, o + t, none⟩ = false := fun t ht => HQ.out.free t (by omega)
        by_cases hgt : j < i
        · have hgti : (j : Int) < i := by omega
          have haj : a ≤ j := by omega
          go_upto_region 8 with fail
          go_cut [] (fun wx => Hid (Srt B w0 g o (swp dk j a) wx))
          case first =>
            have hisz : j < d.size := by omega
            have hjsz : a < d.size := by omega
            rcases Nat.lt_or_eq_of_le (show a ≤ j by omega) with hne | heq
            · go_region
              all_goals go_wp2
              all_goals go_meet
              all_goals
                rw [HG.out, HG.out]
                exact Lib.hid ((HQ.out.drew _).swap (by omega) (by omega))
            · subst heq
              go_region
              all_goals go_wp2
              all_goals go_meet
              all_goals
                rw [HG.out]
                exact Lib.hid ((HQ.out.drew _).swap (by omega) (by omega))
          case rest =>
            go_wp2
            go_ret2
            obtain ⟨q1, q2, q3⟩ := part_end HI.out.perm haj (by omega) hb (fun t h1 h2 => HI.out.L t h1 (by omega)) (fun t h1 h2 => HI.out.R t h1 h2)
            exact ⟨j, true, _, rfl, haj, by omega, q1, q2, q3, hcut.out⟩
        · have hgti : ¬ (j : Int) < i := by omega
          have hne : i ≠ j := fun h => by
            subst h
            have h1 := HU.out.2.1 (by omega)
            have h2 := HD.out.2.1 (Nat.le_refl _)
            rw [h1] at h2
            cases h2
          have hij : i < j := by omega
          have HI2 : Hid (PInv a (e + 1) d (swp dk i j) (i + 1) (j - 1)) := Lib.hid (HI.out.swap (by omega) hij (by omega) hb (HU.out.2.1 (by omega)) (HD.out.2.1 (by omega)))
          clear hne
          go_upto_region 10 with fail
          go_cut [] (fun wx => Hid (Srt B w0 g o (swp dk i j) wx))
          case first =>
            have hisz : i < d.size := by omega
            have hjsz : j < d.size := by omega
            rcases Nat.lt_or_eq_of_le (show i ≤ j by omega) with hne | heq
            · go_region
              all_goals go_wp2
              all_goals go_meet
              all_goals
                rw [HG.out, HG.out]
                exact Lib.hid ((HQ.out.drew _).swap (by omega) (by omega))
            · subst heq
              go_region
              all_goals go_wp2
              all_goals go_meet
              all_goals
                rw [HG.out]
                exact Lib.hid ((HQ.out.drew _).swap (by omega) (by omega))
          case rest =>
            have HQ2 := hcut
            clear hcut hcw hfw HQ HU HD HI HP
            obtain ⟨d2, hd2⟩ : ∃ d2, swp dk i j = d2 := ⟨_, rfl⟩
            rw [hd2] at HI2 HQ2
            clear hd2 HG G hsk dk
            go_upto_block 4 with fail
            refine wp_block ?_
            go_loopg [10, 11] (e + 1) (fun k vi vj wx => ∃ (i j : Nat) (dk : Array Int), vi = .int .i64 i ∧ vj = .int .i64 j ∧ a < i ∧ i ≤ j + 1 ∧ j < e + 1 ∧ j + 1 ≤ i + k ∧ Hid (PInv a (e + 1) d dk i j ∧ Srt B w0 g o dk wx))
            case atStart => exact ⟨i + 1, j - 1, d2, by go_num, by congr 1; omega, by omega, by omega, by omega, by omega, Lib.hid ⟨HI2.out, HQ2.out⟩⟩
            case round =>
              clear HI2 HQ2 hgt hgti hij hi1 hi2 hj1 hj2
              obtain ⟨i1, j1, dk, rfl, rfl, hai, hij1, hje, hk1, HR⟩ := hrel
              have hsk : dk.size = d.size := HR.out.1.perm.1
              have HQ : Hid (Srt B w0 g o dk wr) := Lib.hid HR.out.2
              obtain ⟨G, hG⟩ : ∃ G : Nat → Int, ∀ t, G t = dk[t]! := ⟨fun t => dk[t]!, fun _ => rfl⟩
              have HG := Lib.hid hG
              clear hG
              go_upto_block 6 with fail
              go_cut [10] (fun vi wx => ∃ (i : Nat), vi = .int .i64 i ∧ i1 ≤ i ∧ i ≤ j1 + 1 ∧ Hid ((∀ t, i1 ≤ t → t < i → ltInt dk[t]! dk[a]! = true) ∧ (i ≤ j1 → ltInt dk[i]! dk[a]! = false) ∧ Srt B w0 g o dk wx))
              case first =>
                refine wp_block ?_
                go_loopg [10] (j1 + 2) (fun k vi wx => ∃ (i : Nat), vi = .int .i64 i ∧ i1 ≤ i ∧ i ≤ j1 + 1 ∧ j1 + 2 ≤ i + k ∧ Hid ((∀ t, i1 ≤ t → t < i → ltInt dk[t]! dk[a]! = true) ∧ Srt B w0 g o dk wx))
                case atStart => exact ⟨i1, rfl, Nat.le_refl _, by omega, by omega, Lib.hid ⟨fun t h1 h2 => by omega, HQ.out⟩⟩
                case round =>
                  obtain ⟨i, rfl, hi0, hij, hk, HI⟩ := hrel
                  have hcw : ∀ t, t < d.size → wr.cell? ⟨g, o + t, none⟩ = some (.int .u32 (G t)) := fun t ht => by rw [HG.out]; exact HI.out.2.cell t (by omega)
                  go_wp2
                  by_cases hle : i ≤ j1
                  · have hlei : (i : Int) ≤ (j1 : Nat) := by omega
                    go_quiet (first | (go_at_call 42; refine Calls.quiet_of_same (less_is _ _ _)))
                    go_wp2
                    · have hl : ltInt (G i) (G a) = true := by assumption
                      go_roundg (j1 + 1 - i)
                      case measure => omega
                      case rel => exact ⟨i + 1, by go_num, by omega, by omega, by omega, Lib.hid ⟨fun t h1 h2 => by
                        rcases Nat.lt_or_ge t i with h | h
                        · exact HI.out.1 t h1 h
                        · obtain rfl : t = i := by omega
                          have := hl
                          rw [HG.out, HG.out] at this
                          exact this, HI.out.2.drew _⟩⟩
                    · have hl : ltInt (G i) (G a) = false := by assumption
                      go_meet
                      case rel => exact ⟨i, rfl, by omega, by omega, Lib.hid ⟨HI.out.1, fun _ => by
                        have := hl
                        rw [HG.out, HG.out] at this
                        exact this, HI.out.2.drew _⟩⟩
                  · have hlei : ¬ (i : Int) ≤ (j1 : Nat) := by omega
                    go_quiet (first | (go_at_call 42; refine Calls.quiet_of_same (less_is _ _ _)))
                    go_wp2
                    go_meet
                    case rel => exact ⟨i, rfl, by omega, by omega, Lib.hid ⟨HI.out.1, fun h => absurd h hle, HI.out.2.drew _⟩⟩
              case rest =>
                obtain ⟨i, rfl, hi1, hi2, HU⟩ := hcut
                clear HQ
                have HQ : Hid (Srt B w0 g o dk wc) := Lib.hid HU.out.2.2
                go_upto_block 8 with fail
                go_cut [11] (fun vj wx => ∃ (j : Nat), vj = .int .i64 j ∧ j ≤ j1 ∧ i ≤ j + 1 ∧ Hid ((∀ t, j < t → t ≤ j1 → ltInt dk[t]! dk[a]! = false) ∧ (i ≤ j → ltInt dk[j]! dk[a]! = true) ∧ Srt B w0 g o dk wx))
                case first =>
                  refine wp_block ?_
                  go_loopg [11] (j1 + 1) (fun k vj wx => ∃ (j : Nat), vj = .int .i64 j ∧ j ≤ j1 ∧ i ≤ j + 1 ∧ j + 1 ≤ k ∧ Hid ((∀ t, j < t → t ≤ j1 → ltInt dk[t]! dk[a]! = false) ∧ Srt B w0 g o dk wx))
                  case atStart => exact ⟨j1, rfl, Nat.le_refl _, by omega, Nat.le_refl _, Lib.hid ⟨fun t h1 h2 => by omega, HQ.out⟩⟩
                  case round =>
                    obtain ⟨j, rfl, hj0, hij, hk, HI⟩ := hrel
                    have hcw : ∀ t, t < d.size → wr.cell? ⟨g, o + t, none⟩ = some (.int .u32 (G t)) := fun t ht => by rw [HG.out]; exact HI.out.2.cell t (by omega)
                    go_wp2
                    by_cases hle : i ≤ j
                    · have hlei : ((i : Nat) : Int) ≤ j := by omega
                      go_quiet (first | (go_at_call 42; refine Calls.quiet_of_same (less_is _ _ _)))
                      go_wp2
                      · have hl : (!ltInt (G j) (G a)) = true := by assumption
                        go_roundg j
                        case measure => omega
                        case rel => exact ⟨j - 1, by congr 1; omega, by omega, by omega, by omega, Lib.hid ⟨fun t h1 h2 => by
                          rcases Nat.lt_or_ge j t with h | h
                          · exact HI.out.1 t h h2
                          · obtain rfl : t = j := by omega
                            have := hl
                            rw [HG.out, HG.out] at this
                            simpa using this, HI.out.2.drew _⟩⟩
                      · have hl : (!ltInt (G j) (G a)) = false := by assumption
                        go_meet
                        case rel => exact ⟨j, rfl, by omega, by omega, Lib.hid ⟨HI.out.1, fun _ => by
                          have := hl
                          rw [HG.out, HG.out] at this
                          simpa using this, HI.out.2.drew _⟩⟩
                    · have hlei : ¬ ((i : Nat) : Int) ≤ j := by omega
                      go_quiet (first | (go_at_call 42; refine Calls.quiet_of_same (less_is _ _ _)))
                      go_wp2
                      go_meet
                      case rel => exact ⟨j, rfl, by omega, by omega, Lib.hid ⟨HI.out.1, fun h => absurd h hle, HI.out.2.drew _⟩⟩
                case rest =>
                  obtain ⟨j, rfl, hj1, hj2, HD⟩ := hcut
                  clear HQ
                  have HQ : Hid (Srt B w0 g o dk wc) := Lib.hid HD.out.2.2
                  have HI : Hid (PInv a (e + 1) d dk i j) := Lib.hid ⟨HR.out.1.perm, fun t h1 h2 => by
                    rcases Nat.lt_or_ge t i1 with h | h
                    · exact HR.out.1.L t h1 h
                    · exact HU.out.1 t h h2, fun t h1 h2 => by
                    rcases Nat.lt_or_ge j1 t with h | h
                    · exact HR.out.1.R t h h2
                    · exact HD.out.1 t h1 h⟩
                  have hcw : ∀ t, t < d.size → wc.cell? ⟨g, o + t, none⟩ = some (.int .u32 (G t)) := fun t ht => by rw [HG.out]; exact HQ.out.cell t (by omega)
                  have hfw : ∀ t, t < d.size → wc.frozen? ⟨g, o + t, none⟩ = false := fun t ht => HQ.out.free t (by omega)
                  by_cases hgt : j < i
                  · have hgti : (j : Int) < i := by omega
                    have haj : a ≤ j := by omega
                    go_upto_region 21 with fail
                    go_cut [] (fun wx => Hid (Srt B w0 g o (swp dk j a) wx))
                    case first =>
                      have hisz : j < d.size := by omega
                      have hjsz : a < d.size := by omega
                      rcases Nat.lt_or_eq_of_le (show a ≤ j by omega) with hne | heq
                      · go_region
                        all_goals go_wp2
                        all_goals go_meet
                        all_goals
                          rw [HG.out, HG.out]
                          exact Lib.hid ((HQ.out.drew _).swap (by omega) (by omega))
                      · subst heq
                        go_region
                        all_goals go_wp2
                        all_goals go_meet
                        all_goals
                          rw [HG.out]
                          exact Lib.hid ((HQ.out.drew _).swap (by omega) (by omega))
                    case rest =>
                      go_wp2
                      go_ret2
                      obtain ⟨q1, q2, q3⟩ := part_end HI.out.perm haj (by omega) hb (fun t h1 h2 => HI.out.L t h1 (by omega)) (fun t h1 h2 => HI.out.R t h1 h2)
                      exact ⟨j, false, _, rfl, haj, by omega, q1, q2, q3, hcut.out⟩
                  · have hgti : ¬ (j : Int) < i := by omega
                    have hne : i ≠ j := fun h => by
                      subst h
                      have h1 := HU.out.2.1 (by omega)
                      have h2 := HD.out.2.1 (Nat.le_refl _)
                      rw [h1] at h2
                      cases h2
                    have hij : i < j := by omega
                    have HI2 : Hid (PInv a (e + 1) d (swp dk i j) (i + 1) (j - 1)) := Lib.hid (HI.out.swap (by omega) hij (by omega) hb (HU.out.2.1 (by omega)) (HD.out.2.1 (by omega)))
                    clear hne
                    go_upto_region 18 with fail
                    go_cut [] (fun wx => Hid (Srt B w0 g o (swp dk i j) wx))
                    case first =>
                      have hisz : i < d.size := by omega
                      have hjsz : j < d.size := by omega
                      rcases Nat.lt_or_eq_of_le (show i ≤ j by omega) with hne | heq
                      · go_region
                        all_goals go_wp2
                        all_goals go_meet
                        all_goals
                          rw [HG.out, HG.out]
                          exact Lib.hid ((HQ.out.drew _).swap (by omega) (by omega))
                      · subst heq
                        go_region
                        all_goals go_wp2
                        all_goals go_meet
                        all_goals
                          rw [HG.out]
                          exact Lib.hid ((HQ.out.drew _).swap (by omega) (by omega))
                    case rest =>
                      go_wp2
                      go_roundg (j - i - 1)
                      case measure => omega
                      case rel => exact ⟨i + 1, j - 1, _, by go_num, by congr 1; omega, by omega, by omega, by omega, by omega, Lib.hid ⟨HI2.out, hcut.out⟩⟩
end Go.Proofs.Yticfffndciddgaa
