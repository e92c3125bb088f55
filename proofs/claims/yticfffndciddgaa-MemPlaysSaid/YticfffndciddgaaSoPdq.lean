/-
  The contract of slices.pdqsortOrdered at uint32: it permutes a part of the row so that it rises. Conditions: the row lies in the memory as SoBase says; nothing in the part is less than what stands ahead of it.
-/
import Derived.Test.YticfffndciddgaaSoIns
import Derived.Test.YticfffndciddgaaSoHeapS
import Derived.Test.YticfffndciddgaaSoRev
import Derived.Test.YticfffndciddgaaSoPart
import Derived.Test.YticfffndciddgaaSoPartEq
import Derived.Test.YticfffndciddgaaSoPartial
import Derived.Test.YticfffndciddgaaSoPivot
import Derived.Test.YticfffndciddgaaSoGlue
namespace Go.Proofs.Yticfffndciddgaa
open Go.RowKit Go.Sort

set_option maxRecDepth 100000 in
set_option maxHeartbeats 8000000 in
theorem pdq_is {B g o : Nat} {w0 : World} (cap : Nat) : ∀ (N : Nat) (a b : Nat) (lim : Int) (d : Array Int) (w : World), b - a ≤ N → Srt B w0 g o d w → a ≤ b → b ≤ d.size → Sort.Below ltInt a b d → d.size < 4611686018427387904 →
    Calls Try.prog 34 #[.slice (some ⟨g, o, none⟩) d.size cap, .int .i64 a, .int .i64 b, .int .i64 lim] w fun e w' =>
      e = .returned (.tuple #[]) ∧ ∃ d', PermIn a b d d' ∧ SortedIn ltInt a b d' ∧ Srt B w0 g o d' w' := by
  intro N
  induction N using Nat.strongRecOn with
  | _ N ih =>
    intro a0 b0 lim0 d w hN h hab hb hlow hsz
    have IH := Lib.hid ih
    have HQ : Hid (Pq B w0 g o a0 b0 d a0 b0 d w) := Lib.hid ⟨fun R h1 h2 => ⟨h1, h2⟩, hlow, h, rfl⟩
    clear ih h hlow
    go_enter Try.func34, Try.ntmps34
    go_upto_block 0 with fail
    refine wp_block ?_
    go_loopg [1, 2, 3, 8, 9] (b0 - a0 + 1) (fun k va vb vl vw vp wx => ∃ (a b : Nat) (lim : Int) (wb wp : Bool) (dk : Array Int), va = .int .i64 a ∧ vb = .int .i64 b ∧ vl = .int .i64 lim ∧ vw = .bool wb ∧ vp = .bool wp ∧ a0 ≤ a ∧ a ≤ b ∧ b ≤ b0 ∧ b - a < k ∧ b - a ≤ N ∧ Hid (Pq B w0 g o a0 b0 d a b dk wx))
    case atStart => exact ⟨a0, b0, lim0, true, true, d, rfl, rfl, rfl, rfl, rfl, Nat.le_refl _, hab, Nat.le_refl _, Nat.lt_succ_self _, hN, HQ⟩
    case round =>
      clear HQ
      obtain ⟨a, b, lim, wb, wp, dk, rfl, rfl, rfl, rfl, rfl, haa, hab2, hbb, hk, hN2, HI⟩ := hrel
      have hsk : dk.size = d.size := HI.out.size
      have hbd : b ≤ d.size := by omega
      have hbk : b ≤ dk.size := by omega
      have hzk : dk.size < 4611686018427387904 := by omega
      by_cases h12 : b - a ≤ 12
      · have h12i : (b : Int) - a ≤ 12 := by omega
        have hc := ins_is HI.out.srt cap a b hab2 hbk hzk
        rw [hsk] at hc
        have HC := Lib.hid hc
        clear hc
        go_wp2_with (go_at_call 36; refine HC.out.mono ?_; rintro e w' ⟨rfl, d', p1, p2, p3⟩)
        refine bodyPost_ret (results_none rfl _ _ _) rfl ?_
        exact ⟨rfl, d', (HI.out.cont d' p1 p2).1, (HI.out.cont d' p1 p2).2, p3⟩
      · have h12i : ¬ (b : Int) - a ≤ 12 := by omega
        have h8 : a + 8 ≤ b := by omega
        have hlt : a < b := by omega
        by_cases hl0 : lim = 0
        · have hl0b : (lim == 0) = true := by rw [hl0]; rfl
          have hc := heap_is HI.out.srt cap a b hab2 hbk hzk
          rw [hsk] at hc
          have HC := Lib.hid hc
          clear hc
          go_wp2_with (go_at_call 37; refine HC.out.mono ?_; rintro e w' ⟨rfl, d', p1, p2, p3⟩)
          refine bodyPost_ret (results_none rfl _ _ _) rfl ?_
          exact ⟨rfl, d', (HI.out.cont d' p1 p2).1, (HI.out.cont d' p1 p2).2, p3⟩
        · have hl0b : (lim == 0) = false := beq_eq_false_iff_ne.2 hl0
          -- the patterns
          go_upto_if 35 with fail
          go_cut [3] (fun vl wx => ∃ (l2 : Int) (d2 : Array Int), vl = .int .i64 l2 ∧ Hid (Pq B w0 g o a0 b0 d a b d2 wx))
          case first =>
            cases wb with
            | true =>
              go_wp2
              go_meet
              case rel => exact ⟨lim, dk, rfl, HI⟩
            | false =>
              have hc := break_is HI.out.srt cap a b h8 hbk hzk
              rw [hsk] at hc
              have HC := Lib.hid hc
              clear hc
              go_wp2_with (go_at_call 38; refine HC.out.mono ?_; rintro e w' ⟨rfl, d', p1, p3⟩)
              have HX : Hid (Pq B w0 g o a0 b0 d a b d' w') := Lib.hid (HI.out.perm hbd p1 p3)
              go_meet
              case rel => exact ⟨_, d', rfl, HX⟩
          case rest =>
            obtain ⟨l2, d2, rfl, HI2⟩ := hcut
            clear HI hsk hbk hzk
            have hs2 : d2.size = d.size := HI2.out.size
            -- the pivot
            have hc := pivot_is HI2.out.srt cap a b h8 (by omega) (by omega)
            rw [hs2] at hc
            have HC := Lib.hid hc
            clear hc
            go_upto_if 50 with (go_at_call 39; refine HC.out.mono ?_; rintro e w' ⟨p, hint, rfl, hp1, hp2, p3⟩)
            have HI3 : Hid (Pq B w0 g o a0 b0 d a b d2 w') := Lib.hid (HI2.out.perm hbd (permIn_refl _ _ _) p3)
            clear p3 HI2 HC
            go_cut [11, 12] (fun vp vh wx => ∃ (q : Nat) (h2 : Int) (d3 : Array Int), vp = .int .i64 q ∧ vh = .int .i64 h2 ∧ a ≤ q ∧ q < b ∧ Hid (Pq B w0 g o a0 b0 d a b d3 wx))
            case first =>
              by_cases h2 : hint = 2
              · have h2b : (hint == 2) = true := by rw [h2]; rfl
                have hc := rev_is HI3.out.srt cap a b hlt (by omega) (by omega)
                rw [hs2] at hc
                have HC := Lib.hid hc
                clear hc
                go_wp2_with (go_at_call 40; refine HC.out.mono ?_; rintro e w' ⟨rfl, d', p1, p3⟩)
                have HX : Hid (Pq B w0 g o a0 b0 d a b d' w') := Lib.hid (HI3.out.perm hbd p1 p3)
                go_meet
                case rel => exact ⟨b - 1 - (p - a), 1, d', by congr 1; omega, rfl, by omega, by omega, HX⟩
              · have h2b : (hint == 2) = false := beq_eq_false_iff_ne.2 h2
                go_wp2
                go_meet
                case rel => exact ⟨p, hint, d2, rfl, rfl, hp1, hp2, HI3⟩
            case rest =>
              obtain ⟨q, h2, d3, rfl, rfl, hq1, hq2, HI4⟩ := hcut
              clear HI3 hs2
              have hs3 : d3.size = d.size := HI4.out.size
              -- already sorted?
              go_upto_region 15 with fail
              go_cut [68] (fun v wx => ∃ c : Bool, v = .bool c ∧ wx = wc)
              case first =>
                cases wb with
                | false =>
                  go_wp2
                  go_meet
                  case rel => exact ⟨_, rfl, rfl⟩
                | true =>
                  cases wp with
                  | false =>
                    go_wp2
                    go_meet
                    case rel => exact ⟨_, rfl, rfl⟩
                  | true =>
                    go_wp2
                    go_meet
                    case rel => exact ⟨_, rfl, rfl⟩
              case rest =>
                obtain ⟨c1, rfl, rfl⟩ := hcut
                go_upto_if 68 with fail
                go_cut [] (fun wx => ∃ (d4 : Array Int), Hid (Pq B w0 g o a0 b0 d a b d4 wx))
                case first =>
                  cases c1 with
                  | false =>
                    go_wp2
                    go_meet
                    case rel => exact ⟨d3, HI4⟩
                  | true =>
                    have hc := partial_is HI4.out.srt cap a b hlt (by omega) HI4.out.low (by omega)
                    rw [hs3] at hc
                    have HC := Lib.hid hc
                    clear hc
                    go_upto_if 72 with (go_at_call 41; refine HC.out.mono ?_; rintro e w' ⟨r, d', rfl, p1, p2, p3⟩)
                    cases r with
                    | true =>
                      have HP := Lib.hid (And.intro p1 (And.intro (p2 rfl) p3))
                      clear p1 p2 p3
                      go_wp2
                      refine bodyPost_ret (results_none rfl _ _ _) rfl ?_
                      exact ⟨rfl, d', (HI4.out.cont d' HP.out.1 HP.out.2.1).1, (HI4.out.cont d' HP.out.1 HP.out.2.1).2, HP.out.2.2⟩
                    | false =>
                      have HX : Hid (Pq B w0 g o a0 b0 d a b d' w') := Lib.hid (HI4.out.perm hbd p1 p3)
                      clear p1 p2 p3
                      go_wp2
                      go_meet
                      case rel => exact ⟨d', HX⟩
                case rest =>
                  obtain ⟨d4, HI5⟩ := hcut
                  clear HI4 hs3
                  have hs4 : d4.size = d.size := HI5.out.size
                  obtain ⟨G, hG⟩ : ∃ G : Nat → Int, ∀ t, G t = d4[t]! := ⟨fun t => d4[t]!, fun _ => rfl⟩
                  have HG := Lib.hid hG
                  clear hG
                  have hcw : ∀ t, t < d.size → wc.cell? ⟨g, o + t, none⟩ = some (.int .u32 (G t)) := fun t ht => by rw [HG.out]; exact HI5.out.srt.cell t (by omega)
                  have hqs : q < d.size := by omega
                  go_upto_region 17 with fail
                  go_cut [87] (fun v wx => ∃ c : Bool, v = .bool c ∧ Hid ((c = true → 0 < a ∧ ltInt d4[a - 1]! d4[q]! = false) ∧ Pq B w0 g o a0 b0 d a b d4 wx))
                  case first =>
                    by_cases ha0 : 0 < a
                    · have ha0i : (0 : Int) < a := by omega
                      have has : a - 1 < d.size := by omega
                      go_quiet (first | (go_at_call 42; refine Calls.quiet_of_same (less_is _ _ _)))
                      go_wp2
                      go_meet
                      case rel => exact ⟨_, rfl, Lib.hid ⟨fun hc => ⟨ha0, by
                        have h2 := hc
                        rw [HG.out, HG.out] at h2
                        simpa using h2⟩, HI5.out.draw _⟩⟩
                    · have ha0i : ¬ (0 : Int) < a := by omega
                      go_quiet (first | (go_at_call 42; refine Calls.quiet_of_same (less_is _ _ _)))
                      go_wp2
                      go_meet
                      case rel => exact ⟨_, rfl, Lib.hid ⟨fun hc => by simp at hc, HI5.out.draw _⟩⟩
                  case rest =>
                    obtain ⟨c2, rfl, HJ⟩ := hcut
                    clear HI5 hcw HG G
                    cases c2 with
                    | true =>
                      have hj := HJ.out.1 rfl
                      have hc := parteq_is HJ.out.2.srt cap a b q hq1 hq2 (by omega) (by omega)
                      rw [hs4] at hc
                      have HC := Lib.hid hc
                      have HJ1 := Lib.hid hj
                      clear hc hj
                      go_wp2_with (go_at_call 43; refine HC.out.mono ?_; rintro e w' ⟨m, d', rfl, m1, m2, p1, p2, p3, p4⟩)
                      have HX : Hid (Pq B w0 g o a0 b0 d m b d' w') := Lib.hid (HJ.out.2.less (glue_eq HJ1.out.1 (by omega) HJ.out.2.low HJ1.out.2 m1 m2 p1 p2 p3) p4 p1.1)
                      clear p1 p2 p3 p4
                      go_roundg (b - a)
                      case measure => omega
                      case rel => exact ⟨m, b, l2, wb, wp, d', rfl, rfl, rfl, rfl, rfl, by omega, by omega, hbb, by omega, by omega, HX⟩
                    | false =>
                      have hc := part_is HJ.out.2.srt cap a b q hq1 hq2 (by omega) (by omega)
                      rw [hs4] at hc
                      have HC := Lib.hid hc
                      clear hc
                      go_upto_region 21 with (go_at_call 44; refine HC.out.mono ?_; rintro e w' ⟨m, al, d', rfl, m1, m2, p1, p2, p3, p4⟩)
                      have hs5 : d'.size = d.size := p1.1.trans hs4
                      have HP := Lib.hid (And.intro p1 (And.intro p2 (And.intro p3 p4)))
                      clear p1 p2 p3 p4 HC
                      by_cases hlr : m - a < b - m
                      · have hlri : (m : Int) - a < (b : Int) - m := by omega
                        have hc := IH.out (m - a) (by omega) a m l2 d' w' (Nat.le_refl _) HP.out.2.2.2 m1 (by omega) (below_left (by omega) m2 HJ.out.2.low HP.out.1) (by omega)
                        rw [hs5] at hc
                        have HC := Lib.hid hc
                        clear hc
                        go_wp2_with (go_at_call 34; refine HC.out.mono ?_; rintro e w2 ⟨rfl, d6, r1, r2, r3⟩)
                        have HX : Hid (Pq B w0 g o a0 b0 d (m + 1) b d6 w2) := Lib.hid (HJ.out.2.less (glue_part_left (by omega) m1 m2 HP.out.1 HP.out.2.1 HP.out.2.2.1 r1 r2) r3 (r1.1.trans HP.out.1.1))
                        clear r1 r2 r3
                        go_roundg (b - a)
                        case measure => omega
                        case rel => exact ⟨m + 1, b, l2, _, _, d6, by go_num, rfl, rfl, rfl, rfl, by omega, by omega, hbb, by omega, by omega, HX⟩
                      · have hlri : ¬ (m : Int) - a < (b : Int) - m := by omega
                        have hc := IH.out (b - (m + 1)) (by omega) (m + 1) b l2 d' w' (Nat.le_refl _) HP.out.2.2.2 m2 (by omega) (below_right HP.out.2.2.1) (by omega)
                        rw [hs5] at hc
                        push_cast at hc
                        have HC := Lib.hid hc
                        clear hc
                        go_wp2_with (go_at_call 34; refine HC.out.mono ?_; rintro e w2 ⟨rfl, d6, r1, r2, r3⟩)
                        have HX : Hid (Pq B w0 g o a0 b0 d a m d6 w2) := Lib.hid (HJ.out.2.less (glue_part_right (by omega) m1 m2 HJ.out.2.low HP.out.1 HP.out.2.1 HP.out.2.2.1 r1 r2) r3 (r1.1.trans HP.out.1.1))
                        clear r1 r2 r3
                        go_roundg (b - a)
                        case measure => omega
                        case rel => exact ⟨a, m, l2, _, _, d6, rfl, rfl, rfl, rfl, rfl, by omega, by omega, by omega, by omega, by omega, HX⟩
end Go.Proofs.Yticfffndciddgaa
