/-
  The contract of slices.heapSortOrdered at uint32: it permutes a part of the row so that it rises. Condition: the row lies in the memory as SoBase says.
-/
import Derived.Test.YticfffndciddgaaSoHeap
namespace Go.Proofs.Yticfffndciddgaa
open Go.RowKit Go.Sort

theorem size_sift (hi F : Nat) : ∀ (n r : Nat) (d : Array Int), hi - r ≤ n → (siftDown ltInt hi F r d).size = d.size
  | 0, r, d, h => by rw [siftDown, dif_pos (by omega)]
  | n + 1, r, d, h => by
    rw [siftDown]
    split
    · rfl
    · split
      · split
        · rfl
        · split
          · rw [size_sift hi F n _ _ (by omega), size_swp]
          · rfl
      · split
        · rfl
        · rw [size_sift hi F n _ _ (by omega), size_swp]

set_option maxRecDepth 100000 in
set_option maxHeartbeats 2000000 in
theorem heap_is {B g o : Nat} {w0 w : World} {d : Array Int} (h : Srt B w0 g o d w) (cap a b : Nat) (hab : a ≤ b) (hb : b ≤ d.size) (hsz : d.size < 4611686018427387904) :
    Calls Try.prog 37 #[.slice (some ⟨g, o, none⟩) d.size cap, .int .i64 a, .int .i64 b] w fun e w' =>
      e = .returned (.tuple #[]) ∧ ∃ d', PermIn a b d d' ∧ SortedIn ltInt a b d' ∧ Srt B w0 g o d' w' := by
  obtain ⟨n, rfl⟩ : ∃ n, b = a + n := ⟨b - a, by omega⟩
  have HS := Lib.hid h
  clear h
  have hq : (a : Int) + (n : Int) - (a : Int) = (n : Int) := by omega
  have hdv : ((n : Int) - 1).tdiv 2 = (((n - 1) / 2 + 1 : Nat) : Int) - 1 := by
    cases n with
    | zero => rfl
    | succ m => rw [show ((m + 1 : Nat) : Int) - 1 = (m : Int) by omega, Int.tdiv_eq_ediv_of_nonneg (by omega)]; omega
  go_enter Try.func37, Try.ntmps37
  go_wp2
  go_loopg [9] ((n - 1) / 2 + 1) (fun k vi wr => vi = .int .i64 ((k : Int) - 1) ∧ k ≤ (n - 1) / 2 + 1 ∧ ∃ (dk : Array Int), dk.size = d.size ∧ Hid (heapBuild ltInt n a k dk = heapBuild ltInt n a ((n - 1) / 2 + 1) d ∧ Srt B w0 g o dk wr))
  case atStart => exact ⟨by congr 1; omega, Nat.le_refl _, d, rfl, Lib.hid ⟨rfl, HS.out⟩⟩
  case round =>
    obtain ⟨rfl, hk, dk, hsk, HI⟩ := hrel
    cases gk with
    | zero =>
      go_wp2
      go_loopg [10] n (fun k vi wr => vi = .int .i64 ((k : Int) - 1) ∧ k ≤ n ∧ ∃ (dj : Array Int), dj.size = d.size ∧ Hid (heapPop ltInt a k dj = heapPop ltInt a n dk ∧ Srt B w0 g o dj wr))
      case atStart => exact ⟨rfl, Nat.le_refl _, dk, hsk, Lib.hid ⟨rfl, HI.out.2⟩⟩
      case round =>
        obtain ⟨rfl, hk2, dj, hsj, HJ⟩ := hrel
        cases gk with
        | zero =>
          go_wp2
          go_end0
          refine ⟨rfl, heapSort ltInt d a (a + n), (heapSort_holds swo_ltInt d a (a + n) hab hb).1, (heapSort_holds swo_ltInt d a (a + n) hab hb).2, ?_⟩
          have e1 := HI.out.1
          have e2 := HJ.out.1
          rw [heapBuild] at e1
          rw [heapPop] at e2
          have e3 : heapSort ltInt d a (a + n) = dj := by
            unfold heapSort
            rw [show a + n - a = n by omega, ← e1, ← e2]
          rw [e3]
          exact HJ.out.2
        | succ k =>
          have hki : ((k + 1 : Nat) : Int) - 1 = (k : Int) := by omega
          rw [hki]
          obtain ⟨G, hG⟩ : ∃ G : Nat → Int, ∀ t, G t = dj[t]! := ⟨fun t => dj[t]!, fun _ => rfl⟩
          have HG := Lib.hid hG
          have hcw : ∀ t, t < d.size → wr.cell? ⟨g, o + t, none⟩ = some (.int .u32 (G t)) := fun t ht => by rw [hG]; exact HJ.out.2.cell t (by omega)
          have hfw : ∀ t, t < d.size → wr.frozen? ⟨g, o + t, none⟩ = false := fun t ht => HJ.out.2.free t (by omega)
          clear hG hki hq hdv
          go_wp2
          have he : heapPop ltInt a (k + 1) dj = heapPop ltInt a k (siftDown ltInt k a 0 (swp dj a (a + k))) := by rw [heapPop]
          have HE := Lib.hid he
          clear he
          have hc : ∀ q, Calls Try.prog 47 #[.slice (some ⟨g, o, none⟩) d.size cap, .int .i64 0, .int .i64 k, .int .i64 a] (((wr.drewN q).setCell ⟨g, o + a, none⟩ (.int .u32 (G (a + k)))).setCell ⟨g, o + (a + k), none⟩ (.int .u32 (G a))) fun e w' => e = .returned (.tuple #[]) ∧ Srt B w0 g o (siftDown ltInt k a 0 (swp dj a (a + k))) w' := fun q => by
            have h1 := (HJ.out.2.drew q).swap (i := a) (j := a + k) (by omega) (by omega)
            have h2 := sift_is h1 cap 0 k a (Nat.zero_le _) (by rw [size_swp]; omega) (by rw [size_swp]; omega)
            rw [size_swp, hsj] at h2
            rw [HG.out, HG.out]
            exact h2
          have HC := Lib.hid hc
          clear hc
          rcases Nat.eq_zero_or_pos k with rfl | hkp
          · go_region
            all_goals go_wp2_with (go_at_call 47; refine (HC.out _).mono ?_; rintro e w' ⟨rfl, hS⟩)
            go_roundg 0
            case measure => omega
            case rel => exact ⟨by go_num, by omega, _, by rw [size_sift _ _ _ _ _ (Nat.le_refl _), size_swp]; exact hsj, Lib.hid ⟨HE.out.symm.trans HJ.out.1, hS⟩⟩
          · go_region
            all_goals go_wp2_with (go_at_call 47; refine (HC.out _).mono ?_; rintro e w' ⟨rfl, hS⟩)
            go_roundg k
            case measure => omega
            case rel => exact ⟨by go_num, by omega, _, by rw [size_sift _ _ _ _ _ (Nat.le_refl _), size_swp]; exact hsj, Lib.hid ⟨HE.out.symm.trans HJ.out.1, hS⟩⟩
    | succ k =>
      have hki : ((k + 1 : Nat) : Int) - 1 = (k : Int) := by omega
      rw [hki]
      have hc := sift_is HI.out.2 cap k n a (by omega) (by omega) (by omega)
      rw [hsk] at hc
      have HC := Lib.hid hc
      clear hc
      go_wp2_with (go_at_call 47; refine HC.out.mono ?_; rintro e w' ⟨rfl, hS⟩)
      go_roundg k
      case measure => omega
      case rel => exact ⟨by go_num, by omega, _, by rw [size_sift _ _ _ _ _ (Nat.le_refl _)]; exact hsk, Lib.hid ⟨HI.out.1, hS⟩⟩
end Go.Proofs.Yticfffndciddgaa
