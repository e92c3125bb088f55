/-
  The contract of block.End, where the place is a line's: an opener or not. Conditions: at most 4000 lines, whose cells, and whose first tokens' cells, are there; the handle of the type error.
-/
import Derived.Test.YtccomiigdpfbpaaDoorEnd
namespace Go.Proofs.YtccomiigdpfbpaaDoor
open Go.RowKit

set_option maxRecDepth 100000 in
set_option maxHeartbeats 1000000 in
theorem end_not (F : Lns) (B O n cap i : Nat) (w : World) (hg : Handle w) (hF : F.In w B O n) (hi : i < n) (hk : ¬ (F.kind i = 1 ∨ F.kind i = 3 ∨ F.kind i = 5)) :
    Calls Tryd.prog 9 #[.slice (some ⟨B, O, none⟩) n cap, .int .i64 i] w (EndOut w (.bad (F.line i) (F.col i))) := by
  have hl := hF i hi
  have hc := hl.cell
  have hkl := kindLine hl
  have hel := errLine 15 hl hg
  have k1 : ((F.kind i : Int) != 1) = true := by rw [bne_iff_ne]; omega
  have k3 : ((F.kind i : Int) != 3) = true := by rw [bne_iff_ne]; omega
  have k5 : ((F.kind i : Int) != 5) = true := by rw [bne_iff_ne]; omega
  have i0 : ¬ (i : Int) < 0 := by omega
  have i1 : ¬ (n : Int) ≤ i := by omega
  clear hF hk
  go_enter Tryd.func9, Tryd.ntmps9
  go_wp2_with (first | (go_at_call 12; refine hkl.mono ?_; rintro e w' ⟨rfl, rfl⟩) | (go_at_call 18; refine hel.mono ?_; rintro e w' ⟨b, rfl, h1, h2, h3⟩))
  go_ret3
  exact ⟨b, rfl, h1, h2, h3⟩

/-- What holds at the loop's head. -/
structure EndInv (F : Lns) (n at_ : Nat) (w0 : World) (R : Res) (k : Nat) (wr : World) (a o : Int) (rest : List (Int × Int)) : Prop where
  run : endRun F n at_ k ((a, o) :: rest) = R
  stk : Stk wr w0.heap.size (w0.heap.size + 1) ((a, o) :: rest).reverse
  len : rest.length + 1 ≤ k
  below : Below w0.heap.size w0 wr
def EndAt (F : Lns) (n at_ : Nat) (w0 : World) (R : Res) (k : Nat) (wr : World) : Prop := ∃ a o rest, EndInv F n at_ w0 R k wr a o rest

theorem stk_start (w : World) (k : Int) : Stk ((w.alloc (.cells #[.int .i64 k, .int .i64 (-1)] 49)).alloc (.cells #[.slice (some ⟨w.heap.size, 0, none⟩) 1 1] 51)) w.heap.size (w.heap.size + 1) [(k, -1)] := by
  refine ⟨by omega, _, by have := Blk.new (w.alloc (.cells #[.int .i64 k, .int .i64 (-1)] 49)) 51 #[.slice (some ⟨w.heap.size, 0, none⟩) 1 1]; simpa using this, w.heap.size, 1, #[.int .i64 k, .int .i64 (-1)], rfl, Nat.le_refl _, (Blk.new _ _ _).alloc _, Nat.le_refl _, by decide, by simp, by simp [stCells], .inl rfl⟩

theorem endRun_end (F : Lns) (n at_ k : Nat) (st : List (Int × Int)) (h : ¬ k < n) : endRun F n at_ k st = .bad (F.line at_) (F.col at_) := by
  unfold endRun
  rw [dif_neg h]
theorem endRun_bad (F : Lns) (n at_ k : Nat) (a o : Int) (rest : List (Int × Int)) (h : k < n) (hs : stepR rest a o (F.kind k) k = none) : endRun F n at_ k ((a, o) :: rest) = .bad (F.line k) (F.col k) := by
  rw [endRun, dif_pos h]
  simp [hs]
theorem endRun_ok (F : Lns) (n at_ k : Nat) (a o : Int) (rest : List (Int × Int)) (h : k < n) (hs : stepR rest a o (F.kind k) k = some []) : endRun F n at_ k ((a, o) :: rest) = .ok k (lastOther a o rest) := by
  rw [endRun, dif_pos h]
  simp [hs]
theorem endRun_on (F : Lns) (n at_ k : Nat) (a o : Int) (rest : List (Int × Int)) (x : Int × Int) (r : List (Int × Int)) (h : k < n) (hs : stepR rest a o (F.kind k) k = some (x :: r)) : endRun F n at_ k ((a, o) :: rest) = endRun F n at_ (k + 1) (x :: r) := by
  conv => lhs; rw [endRun, dif_pos h]
  simp [hs]

theorem Stk.cell {w : World} {base g0 : Nat} {st : List (Int × Int)} (h : Stk w base g0 st) : ∃ g cap, w.cell? ⟨g0, 0, none⟩ = some (.slice (some ⟨g, 0, none⟩) st.length cap) := by
  obtain ⟨h0, v, hg0, g, cap, cur, rfl, r⟩ := h
  exact ⟨g, cap, hg0.cell 0⟩

set_option maxRecDepth 100000 in
set_option maxHeartbeats 8000000 in
theorem end_run (F : Lns) (B O n cap i : Nat) (w : World) (hg : Handle w) (hn : n ≤ 4000) (hF : F.In w B O n) (hi : i < n) (hk : F.kind i = 1 ∨ F.kind i = 3 ∨ F.kind i = 5) :
    Calls Tryd.prog 9 #[.slice (some ⟨B, O, none⟩) n cap, .int .i64 i] w (EndOut w (endRun F n i (i + 1) [((F.kind i : Int), -1)])) := by
  have hl := hF i hi
  have hc := hl.cell
  have hkl := kindLine hl
  have i0 : ¬ (i : Int) < 0 := by omega
  have i1 : ¬ (n : Int) ≤ i := by omega
  have HF := Lib.hid hF
  clear hF
  obtain ⟨R, hR⟩ : ∃ R, R = endRun F n i (i + 1) [((F.kind i : Int), -1)] := ⟨_, rfl⟩
  rw [← hR]
  have HR := Lib.hid hR
  clear hR
  have HST := Lib.hid (stk_start w (F.kind i))
  have hstart : Below w.heap.size w ((w.alloc (.cells #[.int .i64 (F.kind i : Int), .int .i64 (-1)] 49)).alloc (.cells #[.slice (some ⟨w.heap.size, 0, none⟩) 1 1] 51)) := ((Below.refl _ _).alloc (Nat.le_refl _) _).alloc (by simp) _
  have HSB := Lib.hid hstart
  clear hstart
  have HK := Lib.hid hk
  have hdec : (((F.kind i : Int) != 1) = false) ∨ (((F.kind i : Int) != 1) = true ∧ ((F.kind i : Int) != 3) = false) ∨ (((F.kind i : Int) != 1) = true ∧ ((F.kind i : Int) != 3) = true ∧ ((F.kind i : Int) != 5) = false) := by
    rcases hk with h | h | h <;> rw [h] <;> decide
  clear hk
  rcases hdec with h1 | ⟨h1, h3⟩ | ⟨h1, h3, h5⟩
  all_goals
    go_enter Tryd.func9, Tryd.ntmps9
    go_wp2_with (go_at_call 12; refine hkl.mono ?_; rintro e w' ⟨rfl, rfl⟩)
    go_loopw [5, 9] (fun _ j wr => ∃ k : Nat, j = .int .i64 k ∧ i + 1 ≤ k ∧ k ≤ n ∧ EndAt F n i w R k wr) (fun _ j _ => n - (intOf j).toNat)
    case atStart => exact ⟨i + 1, by go_num, Nat.le_refl _, by omega, (F.kind i : Int), -1, [], HR.out.symm, HST.out, by simp, HSB.out⟩
    case round =>
      obtain ⟨k, rfl, hik, hkn, a, o, rest, hrun, hstk, hlen, hbel⟩ := hrel
      have HRUN := Lib.hid hrun
      have HB := Lib.hid hbel
      have hFr := HF.out.below hbel
      have hgr := hg.below hbel hg.pos
      by_cases hlt : k < n
      · have hlk := hFr k hlt
        have hck := hlk.cell
        have hkk := kindLine hlk
        obtain ⟨g, cp, hblk, hbot⟩ := hstk.bottom
        have hopen := hblk.cell 0
        simp at hopen
        have hrl : ((a, o) :: rest).reverse = rest.reverse ++ [(a, o)] := by simp
        have htk := take_any w.heap.size (w.heap.size + 1) rest.reverse a o k (F.kind k) (F.kind_le k) wr (by simp; omega) hbel.size (by rw [← hrl]; exact hstk)
        rw [stepS_R] at htk
        have hAT : ∀ w1, Below w.heap.size wr w1 → F.At w1 B O k ∧ Handle w1 ∧ Below w.heap.size w w1 := fun w1 h => ⟨(HF.out.below (hbel.trans h)) k hlt, hg.below (hbel.trans h) hg.pos, hbel.trans h⟩
        have HAT := Lib.hid hAT
        clear hAT hrun hbel hFr hgr hstk hblk hrl hlk
        cases hs : stepR rest a o (F.kind k) k with
        | none =>
          rw [hs] at htk
          have hR : R = .bad (F.line k) (F.col k) := HRUN.out.symm.trans (endRun_bad F n i k a o rest hlt hs)
          have HR2 := Lib.hid hR
          clear hs hR
          go_wp2_with (first | (go_at_call 12; refine hkk.mono ?_; rintro e w' ⟨rfl, rfl⟩) | (go_at_call 19; refine htk.mono ?_; rintro e w1 ⟨rfl, hb1⟩; obtain ⟨hat1, hgw1, hbw1⟩ := HAT.out w1 hb1; have hc1 := hat1.cell; have hel := errLine 15 hat1 hgw1) | (go_at_call 18; refine hel.mono ?_; rintro e w2 ⟨b, rfl, h1, h2, h3⟩))
          go_ret3
          rw [HR2.out]
          exact ⟨b, rfl, Nat.le_trans hbw1.size h1, h2, hbw1.trans (h3.mono hbw1.size)⟩
        | some st =>
          rw [hs] at htk
          cases st with
          | nil =>
            have hR : R = .ok k (lastOther a o rest) := HRUN.out.symm.trans (endRun_ok F n i k a o rest hlt hs)
            have HR2 := Lib.hid hR
            clear hs hR
            go_wp2_with (first | (go_at_call 12; refine hkk.mono ?_; rintro e w' ⟨rfl, rfl⟩) | (go_at_call 19; refine htk.mono ?_; rintro e w1 ⟨rfl, hst1, hb1⟩; obtain ⟨hat1, hgw1, hbw1⟩ := HAT.out w1 hb1; obtain ⟨g1, cp1, hc1⟩ := Stk.cell hst1; simp at hc1))
            go_ret3
            rw [HR2.out]
            exact ⟨rfl, hbw1⟩
          | cons x r =>
            have hR : Hid (endRun F n i (k + 1) (x :: r) = R) := ((endRun_on F n i k a o rest x r hlt hs).symm.trans HRUN.out)
            have hlr : Hid (r.length + 1 ≤ k + 1) := by have h1 := stepR_len hs; simp at h1; show r.length + 1 ≤ k + 1; omega
            clear hs
            have hz : (((r.length : Int) + 1) == 0) = false := by simp; omega
            go_wp2_with (first | (go_at_call 12; refine hkk.mono ?_; rintro e w' ⟨rfl, rfl⟩) | (go_at_call 19; refine htk.mono ?_; rintro e w1 ⟨rfl, hst1, hb1⟩; obtain ⟨hat1, hgw1, hbw1⟩ := HAT.out w1 hb1; obtain ⟨g1, cp1, hc1⟩ := Stk.cell hst1; have HS1 := Lib.hid hst1; clear hst1; simp at hc1))
            go_roundw
            case rel => exact ⟨k + 1, by go_num, by omega, by omega, x.1, x.2, r, hR.out, HS1.out, hlr.out, hbw1⟩
            case measure => simp [intOf]; omega
      · have hR : R = .bad (F.line i) (F.col i) := HRUN.out.symm.trans (endRun_end F n i k _ hlt)
        have HR2 := Lib.hid hR
        clear hR
        have hli := hFr i hi
        have hci := hli.cell
        have hel := errLine 15 hli hgr
        have hlt2 : ¬ (k : Int) < n := by omega
        clear hrun hbel hFr hgr hstk
        go_wp2_with (go_at_call 18; refine hel.mono ?_; rintro e w2 ⟨b, rfl, h1, h2, h3⟩)
        go_ret3
        rw [HR2.out]
        exact ⟨b, rfl, Nat.le_trans HB.out.size h1, h2, HB.out.trans (h3.mono HB.out.size)⟩
end Go.Proofs.YtccomiigdpfbpaaDoor
