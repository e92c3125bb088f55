/-
  The contract of slices.partitionEqualOrdered at uint32. Condition: the row lies in the memory as SoBase says.
-/
import Derived.Test.YticfffndciddgaaSoBase
import Derived.Deep.DeepCutAuto
import Derived.Deep.CutBlock
import Derived.Sort.LotC
namespace Go.Proofs.Yticfffndciddgaa
open Go.RowKit Go.Sort

/-- Where the two scans stand; v: what is parted by. -/
structure QInv (a b : Nat) (v : Int) (d dk : Array Int) (i j : Nat) : Prop where
  perm : PermIn a b d dk
  at_ : dk[a]! = v
  L : ∀ t, a < t → t < i → ltInt v dk[t]! = false
  R : ∀ t, j < t → t < b → ltInt v dk[t]! = true
theorem QInv.swap {a b i j : Nat} {v : Int} {d dk : Array Int} (h : QInv a b v d dk i j) (ha : a < i) (hlt : i < j) (hjb : j < b) (hb : b ≤ d.size) (fi : ltInt v dk[i]! = true) (fj : ltInt v dk[j]! = false) : QInv a b v d (swp dk i j) (i + 1) (j - 1) := by
  have hs : dk.size = d.size := h.perm.1
  obtain ⟨r1, r2, r3, r4⟩ := round_swap (fun x => !ltInt v x) dk a b i j ha hlt hjb (by omega) (fun t h1 h2 => by rw [h.L t h1 h2]; rfl) (fun t h1 h2 => by rw [h.R t h1 h2]; rfl) (by rw [fi]; rfl) (by rw [fj]; rfl)
  exact ⟨permIn_trans _ _ _ _ _ h.perm (permIn_mono _ _ (a + 1) b a b (by omega) (Nat.le_refl _) (by omega) r4), by rw [r1]; exact h.at_, fun t h1 h2 => by simpa using r2 t h1 h2, fun t h1 h2 => by simpa using r3 t h1 h2⟩

set_option maxRecDepth 100000 in
set_option maxHeartbeats 4000000 in
theorem parteq_is {B g o : Nat} {w0 w : World} {d : Array Int} (h : Srt B w0 g o d w) (cap a b p : Nat) (hap : a ≤ p) (hpb : p < b) (hb : b ≤ d.size) (hsz : d.size < 4611686018427387904) :
    Calls Try.prog 43 #[.slice (some ⟨g, o, none⟩) d.size cap, .int .i64 a, .int .i64 b, .int .i64 p] w fun e w' =>
      ∃ (m : Nat) (d' : Array Int), e = .returned (.int .i64 m) ∧ a < m ∧ m ≤ b ∧ PermIn a b d d' ∧ (∀ i, a ≤ i → i < m → ltInt d[p]! d'[i]! = false) ∧ (∀ i, m ≤ i → i < b → ltInt d[p]! d'[i]! = true) ∧ Srt B w0 g o d' w' := by
  obtain ⟨e, rfl⟩ : ∃ e, b = e + 1 := ⟨b - 1, by omega⟩
  have HQ := Lib.hid h
  clear h
  obtain ⟨v, hv⟩ : ∃ v, d[p]! = v := ⟨_, rfl⟩
  rw [hv]
  have HV := Lib.hid hv
  clear hv
  obtain ⟨G, hG⟩ : ∃ G : Nat → Int, ∀ t, G t = d[t]! := ⟨fun t => d[t]!, fun _ => rfl⟩
  have HG := Lib.hid hG
  clear hG
  have hcw : ∀ t, t < d.size → w.cell? ⟨g, o + t, none⟩ = some (.int .u32 (G t)) := fun t ht => by rw [HG.out]; exact HQ.out.cell t (by omega)
  have hfw : ∀ t, t < d.size → w.frozen? ⟨g, o + t, none⟩ = false := fun t ht => HQ.out.free t (by omega)
  go_enter Try.func43, Try.ntmps43
  go_upto_region 1 with fail
  go_cut [] (fun wx => Hid (Srt B w0 g o (swp d a p) wx))
  case first =>
    have hisz : a < d.size := by omega
    have hjsz : p < d.size := by omega
    rcases Nat.lt_or_eq_of_le (show a ≤ p by omega) with hne | heq
    · go_region
      all_goals go_wp2
      all_goals go_meet
      all_goals
        rw [HG.out, HG.out]
        exact Lib.hid ((HQ.out.drew _).swap (by omega) (by omega))
    · subst heq
      go_region
      all_goals go_wp2
      all_goals go_meet
      all_goals
        rw [HG.out]
        exact Lib.hid ((HQ.out.drew _).swap (by omega) (by omega))
  case rest =>
    have hd1 : PermIn a (e + 1) d (swp d a p) := swp_permIn _ _ _ _ _ (Nat.le_refl _) (by omega) hap hpb hb
    have hv1 : (swp d a p)[a]! = v := by
      rw [swp_get d (by omega) (by omega)]
      by_cases h : a = p
      · rw [if_pos h, h, HV.out]
      · rw [if_neg h, if_pos rfl, HV.out]
    clear hcw hfw HQ
    obtain ⟨dk, hdk⟩ : ∃ dk, swp d a p = dk := ⟨_, rfl⟩
    rw [hdk] at hd1 hv1 hcut
    clear hdk HG G
    have HP := Lib.hid (And.intro hd1 hv1)
    clear hd1 hv1
    have HQ0 := hcut
    clear hcut
    go_upto_region 2 with fail
    go_cut [9, 10] (fun vi vj wx => vi = .int .i64 ((a : Int) + 1) ∧ vj = .int .i64 (e : Int) ∧ wx = wc)
    case first =>
      go_wp2
      go_meet
      case rel => exact ⟨by first | rfl | (congr 1; omega), by first | rfl | (congr 1; omega), rfl⟩
    obtain ⟨rfl, rfl, rfl⟩ := hcut
    go_upto_block 0 with fail
    refine wp_block ?_
    go_loopg [9, 10] (e + 1) (fun k vi vj wx => ∃ (i j : Nat) (dk : Array Int), vi = .int .i64 i ∧ vj = .int .i64 j ∧ a < i ∧ i ≤ j + 1 ∧ j < e + 1 ∧ j + 1 ≤ i + k ∧ Hid (QInv a (e + 1) v d dk i j ∧ Srt B w0 g o dk wx))
    case atStart => exact ⟨a + 1, e, dk, by go_num, rfl, by omega, by omega, by omega, by omega, Lib.hid ⟨⟨HP.out.1, HP.out.2, fun t h1 h2 => by omega, fun t h1 h2 => by omega⟩, HQ0.out⟩⟩
    case round =>
      clear HQ0 HP
      obtain ⟨i1, j1, dk, rfl, rfl, hai, hij1, hje, hk1, HR⟩ := hrel
      have hsk : dk.size = d.size := HR.out.1.perm.1
      have HQ : Hid (Srt B w0 g o dk wr) := Lib.hid HR.out.2
      obtain ⟨G, hG⟩ : ∃ G : Nat → Int, ∀ t, G t = dk[t]! := ⟨fun t => dk[t]!, fun _ => rfl⟩
      have HG := Lib.hid hG
      clear hG
      go_upto_block 2 with fail
      go_cut [9] (fun vi wx => ∃ (i : Nat), vi = .int .i64 i ∧ i1 ≤ i ∧ i ≤ j1 + 1 ∧ Hid ((∀ t, i1 ≤ t → t < i → ltInt dk[a]! dk[t]! = false) ∧ (i ≤ j1 → ltInt dk[a]! dk[i]! = true) ∧ Srt B w0 g o dk wx))
      case first =>
        refine wp_block ?_
        go_loopg [9] (j1 + 2) (fun k vi wx => ∃ (i : Nat), vi = .int .i64 i ∧ i1 ≤ i ∧ i ≤ j1 + 1 ∧ j1 + 2 ≤ i + k ∧ Hid ((∀ t, i1 ≤ t → t < i → ltInt dk[a]! dk[t]! = false) ∧ Srt B w0 g o dk wx))
        case atStart => exact ⟨i1, rfl, Nat.le_refl _, by omega, by omega, Lib.hid ⟨fun t h1 h2 => by omega, HQ.out⟩⟩
        case round =>
          obtain ⟨i, rfl, hi0, hij, hk, HI⟩ := hrel
          have hcw : ∀ t, t < d.size → wr.cell? ⟨g, o + t, none⟩ = some (.int .u32 (G t)) := fun t ht => by rw [HG.out]; exact HI.out.2.cell t (by omega)
          go_wp2
          by_cases hle : i ≤ j1
          · have hlei : (i : Int) ≤ (j1 : Nat) := by omega
            go_quiet (first | (go_at_call 42; refine Calls.quiet_of_same (less_is _ _ _)))
            go_wp2
            · have hl : (!ltInt (G a) (G i)) = true := by assumption
              go_roundg (j1 + 1 - i)
              case measure => omega
              case rel => exact ⟨i + 1, by go_num, by omega, by omega, by omega, Lib.hid ⟨fun t h1 h2 => by
                rcases Nat.lt_or_ge t i with h | h
                · exact HI.out.1 t h1 h
                · obtain rfl : t = i := by omega
                  have := hl
                  rw [HG.out, HG.out] at this
                  simpa using this, HI.out.2.drew _⟩⟩
            · have hl : (!ltInt (G a) (G i)) = false := by assumption
              go_meet
              case rel => exact ⟨i, rfl, by omega, by omega, Lib.hid ⟨HI.out.1, fun _ => by
                have := hl
                rw [HG.out, HG.out] at this
                simpa using this, HI.out.2.drew _⟩⟩
          · have hlei : ¬ (i : Int) ≤ (j1 : Nat) := by omega
            go_quiet (first | (go_at_call 42; refine Calls.quiet_of_same (less_is _ _ _)))
            go_wp2
            go_meet
            case rel => exact ⟨i, rfl, by omega, by omega, Lib.hid ⟨HI.out.1, fun h => absurd h hle, HI.out.2.drew _⟩⟩
      case rest =>
        obtain ⟨i, rfl, hi1, hi2, HU⟩ := hcut
        clear HQ
        have HQ : Hid (Srt B w0 g o dk wc) := Lib.hid HU.out.2.2
        go_upto_block 4 with fail
        go_cut [10] (fun vj wx => ∃ (j : Nat), vj = .int .i64 j ∧ j ≤ j1 ∧ i ≤ j + 1 ∧ Hid ((∀ t, j < t → t ≤ j1 → ltInt dk[a]! dk[t]! = true) ∧ (i ≤ j → ltInt dk[a]! dk[j]! = false) ∧ Srt B w0 g o dk wx))
        case first =>
          refine wp_block ?_
          go_loopg [10] (j1 + 1) (fun k vj wx => ∃ (j : Nat), vj = .int .i64 j ∧ j ≤ j1 ∧ i ≤ j + 1 ∧ j + 1 ≤ k ∧ Hid ((∀ t, j < t → t ≤ j1 → ltInt dk[a]! dk[t]! = true) ∧ Srt B w0 g o dk wx))
          case atStart => exact ⟨j1, rfl, Nat.le_refl _, by omega, Nat.le_refl _, Lib.hid ⟨fun t h1 h2 => by omega, HQ.out⟩⟩
          case round =>
            obtain ⟨j, rfl, hj0, hij, hk, HI⟩ := hrel
            have hcw : ∀ t, t < d.size → wr.cell? ⟨g, o + t, none⟩ = some (.int .u32 (G t)) := fun t ht => by rw [HG.out]; exact HI.out.2.cell t (by omega)
            go_wp2
            by_cases hle : i ≤ j
            · have hlei : ((i : Nat) : Int) ≤ j := by omega
              go_quiet (first | (go_at_call 42; refine Calls.quiet_of_same (less_is _ _ _)))
              go_wp2
              · have hl : ltInt (G a) (G j) = true := by assumption
                go_roundg j
                case measure => omega
                case rel => exact ⟨j - 1, by congr 1; omega, by omega, by omega, by omega, Lib.hid ⟨fun t h1 h2 => by
                  rcases Nat.lt_or_ge j t with h | h
                  · exact HI.out.1 t h h2
                  · obtain rfl : t = j := by omega
                    have := hl
                    rw [HG.out, HG.out] at this
                    exact this, HI.out.2.drew _⟩⟩
              · have hl : ltInt (G a) (G j) = false := by assumption
                go_meet
                case rel => exact ⟨j, rfl, by omega, by omega, Lib.hid ⟨HI.out.1, fun _ => by
                  have := hl
                  rw [HG.out, HG.out] at this
                  exact this, HI.out.2.drew _⟩⟩
            · have hlei : ¬ ((i : Nat) : Int) ≤ j := by omega
              go_quiet (first | (go_at_call 42; refine Calls.quiet_of_same (less_is _ _ _)))
              go_wp2
              go_meet
              case rel => exact ⟨j, rfl, by omega, by omega, Lib.hid ⟨HI.out.1, fun h => absurd h hle, HI.out.2.drew _⟩⟩
        case rest =>
          obtain ⟨j, rfl, hj1, hj2, HD⟩ := hcut
          clear HQ
          have HQ : Hid (Srt B w0 g o dk wc) := Lib.hid HD.out.2.2
          have HI : Hid (QInv a (e + 1) v d dk i j) := Lib.hid ⟨HR.out.1.perm, HR.out.1.at_, fun t h1 h2 => by
            rcases Nat.lt_or_ge t i1 with h | h
            · exact HR.out.1.L t h1 h
            · have := HU.out.1 t h h2
              rwa [HR.out.1.at_] at this, fun t h1 h2 => by
            rcases Nat.lt_or_ge j1 t with h | h
            · exact HR.out.1.R t h h2
            · have := HD.out.1 t h1 h
              rwa [HR.out.1.at_] at this⟩
          have hcw : ∀ t, t < d.size → wc.cell? ⟨g, o + t, none⟩ = some (.int .u32 (G t)) := fun t ht => by rw [HG.out]; exact HQ.out.cell t (by omega)
          have hfw : ∀ t, t < d.size → wc.frozen? ⟨g, o + t, none⟩ = false := fun t ht => HQ.out.free t (by omega)
          by_cases hgt : j < i
          · have hgti : (j : Int) < i := by omega
            go_wp2
            go_ret
            refine ⟨i, dk, rfl, by omega, by omega, HI.out.perm, fun t h1 h2 => ?_, fun t h1 h2 => HI.out.R t (by omega) h2, HQ.out⟩
            by_cases h : t = a
            · subst h
              rw [HI.out.at_]
              exact swo_ltInt.irrefl _
            · exact HI.out.L t (by omega) h2
          · have hgti : ¬ (j : Int) < i := by omega
            have hne : i ≠ j := fun h => by
              subst h
              have h1 := HU.out.2.1 (by omega)
              have h2 := HD.out.2.1 (Nat.le_refl _)
              rw [h1] at h2
              cases h2
            have hij : i < j := by omega
            have HI2 : Hid (QInv a (e + 1) v d (swp dk i j) (i + 1) (j - 1)) := Lib.hid (HI.out.swap (by omega) hij (by omega) hb (by have := HU.out.2.1 (by omega); rwa [HI.out.at_] at this) (by have := HD.out.2.1 (by omega); rwa [HI.out.at_] at this))
            clear hne
            go_upto_region 8 with fail
            go_cut [] (fun wx => Hid (Srt B w0 g o (swp dk i j) wx))
            case first =>
              have hisz : i < d.size := by omega
              have hjsz : j < d.size := by omega
              rcases Nat.lt_or_eq_of_le (show i ≤ j by omega) with hne | heq
              · go_region
                all_goals go_wp2
                all_goals go_meet
                all_goals
                  rw [HG.out, HG.out]
                  exact Lib.hid ((HQ.out.drew _).swap (by omega) (by omega))
              · subst heq
                go_region
                all_goals go_wp2
                all_goals go_meet
                all_goals
                  rw [HG.out]
                  exact Lib.hid ((HQ.out.drew _).swap (by omega) (by omega))
            case rest =>
              go_wp2
              go_roundg (j - i - 1)
              case measure => omega
              case rel => exact ⟨i + 1, j - 1, _, by go_num, by congr 1; omega, by omega, by omega, by omega, by omega, Lib.hid ⟨HI2.out, hcut.out⟩⟩
end Go.Proofs.Yticfffndciddgaa
