/-
  The contract of slices.breakPatternsOrdered at uint32: it permutes a part of the row. Condition: the row lies in the memory as SoBase says.
-/
import Derived.Test.YticfffndciddgaaSoBase
import Derived.Test.YticfffndciddgaaShelfM
import Derived.Deep.DeepCutAuto
import Derived.Deep.CutBlock
import Derived.Sort.LotD1
namespace Go.Proofs.Yticfffndciddgaa
open Go.RowKit Go.Sort

theorem Srt.setOther {B g o : Nat} {w0 w : World} {d : Array Int} (h : Srt B w0 g o d w) {r : Nat} (hr : B ≤ r) (hne : r ≠ g) (u : Value) : Srt B w0 g o d (w.setCell ⟨r, 0, none⟩ u) :=
  ⟨fun t ht => (World.cell?_setCell_other w _ _ _ (fun h => hne (congrArg Addr.block h))).trans (h.cell t ht), fun t ht => by simpa using h.free t ht, h.below.setCell (p := ⟨r, 0, none⟩) hr u, h.base, by simpa using h.lt⟩

/-- The row, and the cell of the random number's. -/
structure SrtR (B : Nat) (w0 : World) (g o : Nat) (d : Array Int) (r X : Nat) (w : World) : Prop where
  srt : Srt B w0 g o d w
  rc : w.cell? ⟨r, 0, none⟩ = some (.int .u64 X)
  rf : w.frozen? ⟨r, 0, none⟩ = false
theorem SrtR.drew {B g o r X : Nat} {w0 w : World} {d : Array Int} (h : SrtR B w0 g o d r X w) (n : Nat) : SrtR B w0 g o d r X (w.drewN n) := ⟨h.srt.drew n, h.rc, h.rf⟩
theorem SrtR.swap {B g o r X : Nat} {w0 w : World} {d : Array Int} (h : SrtR B w0 g o d r X w) (hne : r ≠ g) {i j : Nat} (hi : i < d.size) (hj : j < d.size) :
    SrtR B w0 g o (swp d i j) r X ((w.setCell ⟨g, o + i, none⟩ (.int .u32 d[j]!)).setCell ⟨g, o + j, none⟩ (.int .u32 d[i]!)) :=
  ⟨h.srt.swap hi hj, by
    rw [World.cell?_setCell_other _ _ _ _ (fun e => hne (congrArg Addr.block e).symm), World.cell?_setCell_other _ _ _ _ (fun e => hne (congrArg Addr.block e).symm)]
    exact h.rc, by simpa using h.rf⟩

set_option maxRecDepth 100000 in
set_option maxHeartbeats 4000000 in
theorem break_is {B g o : Nat} {w0 w : World} {d : Array Int} (h : Srt B w0 g o d w) (cap a b : Nat) (hab : a + 8 ≤ b) (hb : b ≤ d.size) (hsz : d.size < 4611686018427387904) :
    Calls Try.prog 38 #[.slice (some ⟨g, o, none⟩) d.size cap, .int .i64 a, .int .i64 b] w fun e w' =>
      e = .returned (.tuple #[]) ∧ ∃ d', PermIn a b d d' ∧ Srt B w0 g o d' w' := by
  obtain ⟨n, rfl⟩ : ∃ n, b = a + n := ⟨b - a, by omega⟩
  have HQ := Lib.hid h
  clear h
  have hn8 : 8 ≤ n := by omega
  have hpw := AnyF.nextPowerOfTwo Try.laysPow n (by omega)
  have hnx := AnyF.xorshift_Next Try.laysNext
  obtain ⟨M, hM⟩ : ∃ M, 1 <<< bitsLen n = M := ⟨_, rfl⟩
  rw [hM] at hpw
  have hM2 : M ≤ 2 * n := by rw [← hM, Nat.one_shiftLeft]; exact two_pow_bitsLen_le (by omega)
  have hM1 : 1 ≤ M := by rw [← hM, Nat.one_shiftLeft]; exact Nat.one_le_two_pow
  clear hM
  have HPW := Lib.hid hpw
  have HNX := Lib.hid hnx
  clear hpw hnx
  have hq : (a : Int) + (n : Int) - (a : Int) = (n : Int) := by omega
  have hdv : (n : Int).tdiv 4 = ((n / 4 : Nat) : Int) := by rw [Int.tdiv_eq_ediv_of_nonneg (by omega)]; omega
  go_enter Try.func38, Try.ntmps38
  go_wp2_with (go_at_call 48; refine (HPW.out _).mono ?_; rintro e w' ⟨rfl, rfl⟩)
  clear hq
  have hq4 : n / 4 * 2 + 2 ≤ n := by omega
  have hrg : w.heap.size ≠ g := fun h => by have := HQ.out.lt; omega
  have hrB : B ≤ w.heap.size := by have h1 := HQ.out.lt; have h2 := HQ.out.base; omega
  go_loopg [9] 4 (fun k vi wx => ∃ (idx X : Nat) (dk : Array Int), vi = .int .i64 idx ∧ a + n / 4 * 2 ≤ idx + 1 ∧ idx + k = a + n / 4 * 2 + 3 ∧ X < 18446744073709551616 ∧ dk.size = d.size ∧ Hid (PermIn a (a + n) d dk ∧ SrtR B w0 g o dk w.heap.size X wx))
  case atStart =>
    exact ⟨a + n / 4 * 2 - 1, n, d, by congr 1; omega, by omega, by omega, by omega, rfl, Lib.hid ⟨permIn_refl _ _ _, ⟨HQ.out.next ((Below.refl _ _).alloc (Nat.le_refl _) _), by simp, by simp⟩⟩⟩
  case round =>
    obtain ⟨idx, X, dk, rfl, hidx, hk, hX, hsk, HI⟩ := hrel
    have hrc := HI.out.2.rc
    have hrf := HI.out.2.rf
    by_cases hle : idx ≤ a + n / 4 * 2 + 1
    · have hlei : (idx : Int) ≤ (a : Int) + (n : Int) / 4 * 2 + 1 := by omega
      obtain ⟨y, hy⟩ : ∃ y, xorNextN X &&& (M - 1) = y := ⟨_, rfl⟩
      have hy2 : y ≤ M - 1 := by rw [← hy]; exact Nat.and_le_right
      have hbx : bits .and .u64 ((xorNextN X : Nat) : Int) ((M : Int) - 1) = (y : Int) := by
        rw [show (M : Int) - 1 = ((M - 1 : Nat) : Int) by omega, bits_and_u64_nat _ _ (xorNextN_lt X hX) (by omega), hy]
      clear hy
      by_cases hyn : n ≤ y
      · have hge : (n : Int) ≤ (y : Int) := by omega
        go_wp2_with (go_at_call 49; refine (HNX.out _ 0 X hX _ hrc hrf).mono ?_; rintro e w' ⟨rfl, rfl⟩)
        generalize hwq : (wr.setCell ⟨w.heap.size, 0, none⟩ (.int .u64 (xorNextN X : Nat))).drewN 3 = wq
        have HQ2 : Hid (SrtR B w0 g o dk w.heap.size (xorNextN X) wq) := Lib.hid (by
          rw [← hwq]
          exact ⟨(HI.out.2.srt.setOther hrB hrg _).drew 3, World.cell?_setCell_same wr _ _ hrc, by simpa using hrf⟩)
        clear hwq hrc hrf
        obtain ⟨G, hG⟩ : ∃ G : Nat → Int, ∀ t, G t = dk[t]! := ⟨fun t => dk[t]!, fun _ => rfl⟩
        have HG := Lib.hid hG
        clear hG
        have hcw : ∀ t, t < d.size → wq.cell? ⟨g, o + t, none⟩ = some (.int .u32 (G t)) := fun t ht => by rw [HG.out]; exact HQ2.out.srt.cell t (by omega)
        have hfw : ∀ t, t < d.size → wq.frozen? ⟨g, o + t, none⟩ = false := fun t ht => HQ2.out.srt.free t (by omega)
        obtain ⟨z, hz⟩ : ∃ z, y = n + z := ⟨y - n, by omega⟩
        have hzi : (y : Int) - (n : Int) = (z : Int) := by omega
        rw [hzi]
        have hwz : IntKind.i64.wrap ((a : Int) + (z : Int)) = (a : Int) + (z : Int) := IntWalk.i64_in _ (by omega)
        have hzn : z < n := by omega
        have hsz2 : a + z < d.size := by omega
        clear hbx hy2
        rcases Nat.lt_trichotomy idx (a + z) with hne | heq | hne
        · go_region
          all_goals go_wp2
          all_goals go_roundg (a + n / 4 * 2 + 2 - idx)
          all_goals first | omega | exact ⟨idx + 1, xorNextN X, swp dk idx (a + z), by go_num, by omega, by omega, xorNextN_lt X hX, by rw [swp_size]; exact hsk, Lib.hid ⟨permIn_trans _ _ _ _ _ HI.out.1 (swp_permIn _ _ _ _ _ (by omega) (by omega) (by omega) (by omega) (by omega)), (by
            rw [HG.out, HG.out]
            exact (HQ2.out.drew _).swap hrg (by omega) (by omega))⟩⟩
        · subst heq
          go_region
          all_goals go_wp2
          all_goals go_roundg (a + n / 4 * 2 + 2 - (a + z))
          all_goals first | omega | exact ⟨(a + z) + 1, xorNextN X, swp dk (a + z) (a + z), by go_num, by omega, by omega, xorNextN_lt X hX, by rw [swp_size]; exact hsk, Lib.hid ⟨permIn_trans _ _ _ _ _ HI.out.1 (swp_permIn _ _ _ _ _ (by omega) (by omega) (by omega) (by omega) (by omega)), (by
            rw [HG.out]
            exact (HQ2.out.drew _).swap hrg (by omega) (by omega))⟩⟩
        · go_region
          all_goals go_wp2
          all_goals go_roundg (a + n / 4 * 2 + 2 - idx)
          all_goals first | omega | exact ⟨idx + 1, xorNextN X, swp dk idx (a + z), by go_num, by omega, by omega, xorNextN_lt X hX, by rw [swp_size]; exact hsk, Lib.hid ⟨permIn_trans _ _ _ _ _ HI.out.1 (swp_permIn _ _ _ _ _ (by omega) (by omega) (by omega) (by omega) (by omega)), (by
            rw [HG.out, HG.out]
            exact (HQ2.out.drew _).swap hrg (by omega) (by omega))⟩⟩
      · have hge : ¬ (n : Int) ≤ (y : Int) := by omega
        go_wp2_with (go_at_call 49; refine (HNX.out _ 0 X hX _ hrc hrf).mono ?_; rintro e w' ⟨rfl, rfl⟩)
        generalize hwq : (wr.setCell ⟨w.heap.size, 0, none⟩ (.int .u64 (xorNextN X : Nat))).drewN 3 = wq
        have HQ2 : Hid (SrtR B w0 g o dk w.heap.size (xorNextN X) wq) := Lib.hid (by
          rw [← hwq]
          exact ⟨(HI.out.2.srt.setOther hrB hrg _).drew 3, World.cell?_setCell_same wr _ _ hrc, by simpa using hrf⟩)
        clear hwq hrc hrf
        obtain ⟨G, hG⟩ : ∃ G : Nat → Int, ∀ t, G t = dk[t]! := ⟨fun t => dk[t]!, fun _ => rfl⟩
        have HG := Lib.hid hG
        clear hG
        have hcw : ∀ t, t < d.size → wq.cell? ⟨g, o + t, none⟩ = some (.int .u32 (G t)) := fun t ht => by rw [HG.out]; exact HQ2.out.srt.cell t (by omega)
        have hfw : ∀ t, t < d.size → wq.frozen? ⟨g, o + t, none⟩ = false := fun t ht => HQ2.out.srt.free t (by omega)
        obtain ⟨z, rfl⟩ : ∃ z, z = y := ⟨y, rfl⟩
        have hwz : IntKind.i64.wrap ((a : Int) + (z : Int)) = (a : Int) + (z : Int) := IntWalk.i64_in _ (by omega)
        have hzn : z < n := by omega
        have hsz2 : a + z < d.size := by omega
        clear hbx hy2
        rcases Nat.lt_trichotomy idx (a + z) with hne | heq | hne
        · go_region
          all_goals go_wp2
          all_goals go_roundg (a + n / 4 * 2 + 2 - idx)
          all_goals first | omega | exact ⟨idx + 1, xorNextN X, swp dk idx (a + z), by go_num, by omega, by omega, xorNextN_lt X hX, by rw [swp_size]; exact hsk, Lib.hid ⟨permIn_trans _ _ _ _ _ HI.out.1 (swp_permIn _ _ _ _ _ (by omega) (by omega) (by omega) (by omega) (by omega)), (by
            rw [HG.out, HG.out]
            exact (HQ2.out.drew _).swap hrg (by omega) (by omega))⟩⟩
        · subst heq
          go_region
          all_goals go_wp2
          all_goals go_roundg (a + n / 4 * 2 + 2 - (a + z))
          all_goals first | omega | exact ⟨(a + z) + 1, xorNextN X, swp dk (a + z) (a + z), by go_num, by omega, by omega, xorNextN_lt X hX, by rw [swp_size]; exact hsk, Lib.hid ⟨permIn_trans _ _ _ _ _ HI.out.1 (swp_permIn _ _ _ _ _ (by omega) (by omega) (by omega) (by omega) (by omega)), (by
            rw [HG.out]
            exact (HQ2.out.drew _).swap hrg (by omega) (by omega))⟩⟩
        · go_region
          all_goals go_wp2
          all_goals go_roundg (a + n / 4 * 2 + 2 - idx)
          all_goals first | omega | exact ⟨idx + 1, xorNextN X, swp dk idx (a + z), by go_num, by omega, by omega, xorNextN_lt X hX, by rw [swp_size]; exact hsk, Lib.hid ⟨permIn_trans _ _ _ _ _ HI.out.1 (swp_permIn _ _ _ _ _ (by omega) (by omega) (by omega) (by omega) (by omega)), (by
            rw [HG.out, HG.out]
            exact (HQ2.out.drew _).swap hrg (by omega) (by omega))⟩⟩
    · have hlei : ¬ (idx : Int) ≤ (a : Int) + (n : Int) / 4 * 2 + 1 := by omega
      go_wp2
      go_end0
      exact ⟨rfl, dk, HI.out.1, HI.out.2.srt⟩
end Go.Proofs.Yticfffndciddgaa
