/-
  The contracts of slices.siftDownOrdered and slices.heapSortOrdered at uint32. Condition: the row lies in the memory as SoBase says.
-/
import Derived.Test.YticfffndciddgaaSoBase
namespace Go.Proofs.Yticfffndciddgaa
open Go.RowKit Go.Sort

theorem sift_eq {hi F r c : Nat} {d : Array Int} (hlt : 2 * r + 1 < hi) (hc : (c = 2 * r + 2 ∧ 2 * r + 2 < hi ∧ ltInt d[F + 2 * r + 1]! d[F + 2 * r + 2]! = true) ∨ (c = 2 * r + 1 ∧ (2 * r + 2 < hi → ltInt d[F + 2 * r + 1]! d[F + 2 * r + 2]! = false))) :
    siftDown ltInt hi F r d = if ltInt d[F + r]! d[F + c]! = true then siftDown ltInt hi F c (swp d (F + r) (F + c)) else d := by
  rw [siftDown, dif_neg (by omega)]
  rcases hc with ⟨rfl, h1, h2⟩ | ⟨rfl, h1⟩
  · have h2' : ltInt d[F + (2 * r + 1)]! d[F + (2 * r + 1) + 1]! = true := h2
    rw [if_pos (by rw [h2']; simpa using h1)]
    cases ltInt d[F + r]! d[F + (2 * r + 2)]! <;> simp [h1]
  · have h2' : (decide (2 * r + 1 + 1 < hi) && ltInt d[F + (2 * r + 1)]! d[F + (2 * r + 1) + 1]!) = false := by
      by_cases h : 2 * r + 2 < hi
      · have : ltInt d[F + (2 * r + 1)]! d[F + (2 * r + 1) + 1]! = false := h1 h
        rw [this, Bool.and_false]
      · rw [decide_eq_false (by omega), Bool.false_and]
    rw [h2', if_neg (by simp)]
    cases ltInt d[F + r]! d[F + (2 * r + 1)]! <;> simp

set_option maxRecDepth 100000 in
set_option maxHeartbeats 2000000 in
theorem sift_is {B g o : Nat} {w0 w : World} {d : Array Int} (h : Srt B w0 g o d w) (cap lo hi F : Nat) (hlo : lo ≤ hi) (hhi : F + hi ≤ d.size) (hsz : d.size < 4611686018427387904) :
    Calls Try.prog 47 #[.slice (some ⟨g, o, none⟩) d.size cap, .int .i64 lo, .int .i64 hi, .int .i64 F] w fun e w' =>
      e = .returned (.tuple #[]) ∧ Srt B w0 g o (siftDown ltInt hi F lo d) w' := by
  have HS := Lib.hid h
  clear h
  go_enter Try.func47, Try.ntmps47
  go_wp2
  go_loopg [8] (hi + 1 - lo) (fun k vr wr => ∃ (r : Nat) (dk : Array Int), vr = .int .i64 r ∧ r ≤ hi ∧ hi + 1 ≤ r + k ∧ dk.size = d.size ∧ Hid (siftDown ltInt hi F r dk = siftDown ltInt hi F lo d ∧ Srt B w0 g o dk wr))
  case atStart => exact ⟨lo, d, rfl, hlo, by omega, rfl, Lib.hid ⟨rfl, HS.out⟩⟩
  case round =>
    obtain ⟨r, dk, rfl, hr, hk, hsk, HI⟩ := hrel
    obtain ⟨G, hG⟩ : ∃ G : Nat → Int, ∀ t, G t = dk[t]! := ⟨fun t => dk[t]!, fun _ => rfl⟩
    have HG := Lib.hid hG
    have hcw : ∀ t, t < d.size → wr.cell? ⟨g, o + t, none⟩ = some (.int .u32 (G t)) := fun t ht => by rw [hG]; exact HI.out.2.cell t (by omega)
    have hfw : ∀ t, t < d.size → wr.frozen? ⟨g, o + t, none⟩ = false := fun t ht => HI.out.2.free t (by omega)
    clear hG
    go_wp2
    · have hge : hi ≤ 2 * r + 1 := by omega
      go_end0
      refine ⟨rfl, ?_⟩
      rw [← HI.out.1, siftDown, dif_pos hge]
      exact HI.out.2
    · have hlt : 2 * r + 1 < hi := by omega
      have w1 : IntKind.i64.wrap (2 * (r : Int) + 1 + 1) = 2 * (r : Int) + 1 + 1 := IntWalk.i64_in _ (by omega)
      have w2 : IntKind.i64.wrap ((F : Int) + (2 * (r : Int) + 1)) = (F : Int) + (2 * (r : Int) + 1) := IntWalk.i64_in _ (by omega)
      have w3 : IntKind.i64.wrap ((F : Int) + (2 * (r : Int) + 1) + 1) = (F : Int) + (2 * (r : Int) + 1) + 1 := IntWalk.i64_in _ (by omega)
      by_cases h2 : 2 * r + 2 < hi
      · have g1 : 2 * (r : Int) + 1 + 1 < hi := by omega
        have g2 : decide (2 * (r : Int) + 1 + 1 < hi) = true := decide_eq_true g1
        go_quiet (first | (go_at_call 42; refine Calls.quiet_of_same (less_is _ _ _)))
        go_wp2
        · have hl : ltInt (G (F + 2 * r + 1)) (G (F + 2 * r + 2)) = true := by assumption
          have HE : Hid _ := Lib.hid (sift_eq (hi := hi) (F := F) (r := r) (c := 2 * r + 2) (d := dk) hlt (.inl ⟨rfl, h2, by rw [← HG.out, ← HG.out]; exact hl⟩))
          have w4 : IntKind.i64.wrap ((F : Int) + (r : Int)) = (F : Int) + (r : Int) := IntWalk.i64_in _ (by omega)
          have w5 : IntKind.i64.wrap ((F : Int) + (2 * (r : Int) + 1 + 1)) = (F : Int) + (2 * (r : Int) + 1 + 1) := IntWalk.i64_in _ (by omega)
          obtain ⟨wq, hwq⟩ : ∃ wq, wq = wr.drewN nq := ⟨_, rfl⟩
          rw [← hwq]
          have hcq : ∀ t, t < d.size → wq.cell? ⟨g, o + t, none⟩ = some (.int .u32 (G t)) := fun t ht => by rw [hwq]; exact hcw t ht
          have hfq : ∀ t, t < d.size → wq.frozen? ⟨g, o + t, none⟩ = false := fun t ht => by rw [hwq]; exact hfw t ht
          have HQ : Hid (Srt B w0 g o dk wq) := Lib.hid (by rw [hwq]; exact HI.out.2.drew _)
          clear hwq hcw hfw hl w1 w3 w2 g1 g2
          go_quiet (first | (go_at_call 42; refine Calls.quiet_of_same (less_is _ _ _)))
          go_wp2
          · have hb : (!ltInt (G (F + r)) (G (F + 2 * r + 2))) = true := by assumption
            have hn : ltInt (G (F + r)) (G (F + (2 * r + 2))) = false := (by simpa using hb : ltInt (G (F + r)) (G (F + 2 * r + 2)) = false)
            refine bodyPost_ret (results_none rfl _ _ _) rfl ?_
            refine ⟨rfl, ?_⟩
            have hn2 := hn
            rw [HG.out, HG.out] at hn2
            rw [← HI.out.1, HE.out, if_neg (by rw [hn2]; simp)]
            exact HQ.out.drew _
          · have hb : (!ltInt (G (F + r)) (G (F + 2 * r + 2))) = false := by assumption
            have hn : ltInt (G (F + r)) (G (F + (2 * r + 2))) = true := (by simpa using hb : ltInt (G (F + r)) (G (F + 2 * r + 2)) = true)
            have hn2 := hn
            rw [HG.out, HG.out] at hn2
            have HN := Lib.hid hn2
            clear hn hn2 hb
            go_region
            all_goals go_wp2
            go_roundg (hi + 1 - (2 * r + 2))
            case measure => omega
            case rel =>
              refine ⟨(2 * r + 2), swp dk (F + r) (F + (2 * r + 2)), by congr 1 <;> omega, by omega, by omega, by rw [swp_size]; exact hsk, Lib.hid ⟨?_, ?_⟩⟩
              · rw [← HI.out.1, HE.out, if_pos HN.out]
              · rw [HG.out, HG.out]
                exact (HQ.out.drew _).swap (by omega) (by omega)
        · have hl : ltInt (G (F + 2 * r + 1)) (G (F + 2 * r + 2)) = false := by assumption
          have HE : Hid _ := Lib.hid (sift_eq (hi := hi) (F := F) (r := r) (c := 2 * r + 1) (d := dk) hlt (.inr ⟨rfl, fun _ => by rw [← HG.out, ← HG.out]; exact hl⟩))
          have w4 : IntKind.i64.wrap ((F : Int) + (r : Int)) = (F : Int) + (r : Int) := IntWalk.i64_in _ (by omega)
          obtain ⟨wq, hwq⟩ : ∃ wq, wq = wr.drewN nq := ⟨_, rfl⟩
          rw [← hwq]
          have hcq : ∀ t, t < d.size → wq.cell? ⟨g, o + t, none⟩ = some (.int .u32 (G t)) := fun t ht => by rw [hwq]; exact hcw t ht
          have hfq : ∀ t, t < d.size → wq.frozen? ⟨g, o + t, none⟩ = false := fun t ht => by rw [hwq]; exact hfw t ht
          have HQ : Hid (Srt B w0 g o dk wq) := Lib.hid (by rw [hwq]; exact HI.out.2.drew _)
          clear hwq hcw hfw hl w1 w3 g1 g2
          go_quiet (first | (go_at_call 42; refine Calls.quiet_of_same (less_is _ _ _)))
          go_wp2
          · have hb : (!ltInt (G (F + r)) (G (F + 2 * r + 1))) = true := by assumption
            have hn : ltInt (G (F + r)) (G (F + (2 * r + 1))) = false := (by simpa using hb : ltInt (G (F + r)) (G (F + 2 * r + 1)) = false)
            refine bodyPost_ret (results_none rfl _ _ _) rfl ?_
            refine ⟨rfl, ?_⟩
            have hn2 := hn
            rw [HG.out, HG.out] at hn2
            rw [← HI.out.1, HE.out, if_neg (by rw [hn2]; simp)]
            exact HQ.out.drew _
          · have hb : (!ltInt (G (F + r)) (G (F + 2 * r + 1))) = false := by assumption
            have hn : ltInt (G (F + r)) (G (F + (2 * r + 1))) = true := (by simpa using hb : ltInt (G (F + r)) (G (F + 2 * r + 1)) = true)
            have hn2 := hn
            rw [HG.out, HG.out] at hn2
            have HN := Lib.hid hn2
            clear hn hn2 hb
            go_region
            all_goals go_wp2
            go_roundg (hi + 1 - (2 * r + 1))
            case measure => omega
            case rel =>
              refine ⟨(2 * r + 1), swp dk (F + r) (F + (2 * r + 1)), by congr 1 <;> omega, by omega, by omega, by rw [swp_size]; exact hsk, Lib.hid ⟨?_, ?_⟩⟩
              · rw [← HI.out.1, HE.out, if_pos HN.out]
              · rw [HG.out, HG.out]
                exact (HQ.out.drew _).swap (by omega) (by omega)
      · have g1 : ¬ 2 * (r : Int) + 1 + 1 < hi := by omega
        have g2 : decide (2 * (r : Int) + 1 + 1 < hi) = false := decide_eq_false g1
        have HE : Hid _ := Lib.hid (sift_eq (hi := hi) (F := F) (r := r) (c := 2 * r + 1) (d := dk) hlt (.inr ⟨rfl, fun h => absurd h h2⟩))
        go_quiet (first | (go_at_call 42; refine Calls.quiet_of_same (less_is _ _ _)))
        go_wp2
        have w4 : IntKind.i64.wrap ((F : Int) + (r : Int)) = (F : Int) + (r : Int) := IntWalk.i64_in _ (by omega)
        obtain ⟨wq, hwq⟩ : ∃ wq, wq = wr.drewN nq := ⟨_, rfl⟩
        rw [← hwq]
        have hcq : ∀ t, t < d.size → wq.cell? ⟨g, o + t, none⟩ = some (.int .u32 (G t)) := fun t ht => by rw [hwq]; exact hcw t ht
        have hfq : ∀ t, t < d.size → wq.frozen? ⟨g, o + t, none⟩ = false := fun t ht => by rw [hwq]; exact hfw t ht
        have HQ : Hid (Srt B w0 g o dk wq) := Lib.hid (by rw [hwq]; exact HI.out.2.drew _)
        clear hwq hcw hfw w1 w3 g1 g2
        go_quiet (first | (go_at_call 42; refine Calls.quiet_of_same (less_is _ _ _)))
        go_wp2
        · have hb : (!ltInt (G (F + r)) (G (F + 2 * r + 1))) = true := by assumption
          have hn : ltInt (G (F + r)) (G (F + (2 * r + 1))) = false := (by simpa using hb : ltInt (G (F + r)) (G (F + 2 * r + 1)) = false)
          refine bodyPost_ret (results_none rfl _ _ _) rfl ?_
          refine ⟨rfl, ?_⟩
          have hn2 := hn
          rw [HG.out, HG.out] at hn2
          rw [← HI.out.1, HE.out, if_neg (by rw [hn2]; simp)]
          exact HQ.out.drew _
        · have hb : (!ltInt (G (F + r)) (G (F + 2 * r + 1))) = false := by assumption
          have hn : ltInt (G (F + r)) (G (F + (2 * r + 1))) = true := (by simpa using hb : ltInt (G (F + r)) (G (F + 2 * r + 1)) = true)
          have hn2 := hn
          rw [HG.out, HG.out] at hn2
          have HN := Lib.hid hn2
          clear hn hn2 hb
          go_region
          all_goals go_wp2
          go_roundg (hi + 1 - (2 * r + 1))
          case measure => omega
          case rel =>
            refine ⟨(2 * r + 1), swp dk (F + r) (F + (2 * r + 1)), by congr 1 <;> omega, by omega, by omega, by rw [swp_size]; exact hsk, Lib.hid ⟨?_, ?_⟩⟩
            · rw [← HI.out.1, HE.out, if_pos HN.out]
            · rw [HG.out, HG.out]
              exact (HQ.out.drew _).swap (by omega) (by omega)
end Go.Proofs.Yticfffndciddgaa
