/-
  The contracts of the reference's Held, Load and Store. Condition: there are not too many cells.
-/
import Derived.Test.YticfffndciddgaaMeRNew
namespace Go.Proofs.Yticfffndciddgaa
open Go.RowKit Go.Maps

set_option maxRecDepth 100000 in
theorem held_is (n : Int) (w : World) : Calls Try.prog 25 #[.int .i64 n] w fun e w' => e = .returned (.int .i64 (wid n : Nat)) ∧ w' = w := by
  go_enter Try.func25, Try.ntmps25
  by_cases h0 : n < 0
  · have hw : ((wid n : Nat) : Int) = 0 := by unfold wid; omega
    rw [hw]
    go_wp2
    go_ret
    exact ⟨rfl, rfl⟩
  · by_cases h4 : 4 < n
    · have hw : ((wid n : Nat) : Int) = 4 := by unfold wid; omega
      rw [hw]
      go_wp2
      go_ret
      exact ⟨rfl, rfl⟩
    · have hw : ((wid n : Nat) : Int) = n := by unfold wid; omega
      rw [hw]
      go_wp2
      go_ret
      exact ⟨rfl, rfl⟩

/-- What the reference's Store leaves. -/
def storeL (v : Int) (l : List (Int × Int)) (a : Int) : Nat → List (Int × Int)
  | 0 => l
  | k + 1 => putL (storeL v l a k) (adr a k) (byteAt v k)
theorem storeL_len (v : Int) (l : List (Int × Int)) (a : Int) : ∀ k, (storeL v l a k).length ≤ l.length + k
  | 0 => Nat.le_refl _
  | k + 1 => by
    have h := storeL_len v l a k
    have := (put_length (adr a k) (byteAt v k) (storeL v l a k)).2
    simp only [storeL]
    omega
theorem look_store (v : Int) (l : List (Int × Int)) (f : Int → Int) (a : Int) (h : ∀ x, lookF l x = f x) : ∀ k x, lookF (storeL v l a k) x = laidF (byteAt v) f a k x
  | 0, x => h x
  | k + 1, x => by
    simp only [storeL, laidF, look_put, upd]
    rw [look_store v l f a h k x]

set_option maxRecDepth 100000 in
set_option maxHeartbeats 2000000 in
theorem rstore_keep {B r : Nat} {w : World} {l : List (Int × Int)} (h : RefIs B w r l) (a v m : Int) (a0 : 0 ≤ a) (a1 : a ≤ 4294967295) (v0 : 0 ≤ v) (v1 : v ≤ 4294967295) (hl : l.length ≤ 90000) :
    Calls Try.prog 12 #[.pointer (some ⟨r, 0, none⟩), .int .u32 a, .int .i64 m, .int .u32 v] w fun e w' => e = .returned (.tuple #[]) ∧ RefIs B w' r (storeL v l a (wid m)) ∧ Below B w w' ∧ Keep w w' := by
  have hw4 := wid_le m
  have hwd := held_is m
  obtain ⟨N, hN⟩ : ∃ N, wid m = N := ⟨_, rfl⟩
  rw [hN] at hw4 hwd ⊢
  have HW := Lib.hid hwd
  have H := Lib.hid h
  clear h hwd hN
  go_enter Try.func12, Try.ntmps12
  go_wp2_with fail
  go_loopg [3, 8] (N + 1) (fun k vv vi wr => ∃ (i : Nat) (V : Int), vv = .int .u32 V ∧ vi = .int .i64 i ∧ i ≤ N ∧ N + 1 ≤ i + k ∧ 0 ≤ V ∧ V ≤ 4294967295 ∧ Hid (V = v / 2 ^ (8 * i) ∧ RefIs B wr r (storeL v l a i) ∧ Below B w wr ∧ Keep w wr))
  case atStart => exact ⟨0, v, rfl, rfl, Nat.zero_le _, by omega, v0, v1, Lib.hid ⟨by simp, H.out, Below.refl _ _, Keep.refl _⟩⟩
  case round =>
    obtain ⟨i, V, rfl, rfl, hi, hk, V0, V1, HI⟩ := hrel
    have hA : IntKind.u32.wrap (a + (i : Int)) = adr a i := by rw [IntKind.wrap_u32]; rfl
    by_cases hlt : i < N
    · have hlti : (i : Int) < N := by omega
      have hsl := storeL_len v l a i
      have hb : V % 256 = byteAt v i := by rw [HI.out.1]; rfl
      have hb1 : V.tmod 256 = byteAt v i := by rw [Int.tmod_eq_emod_of_nonneg V0]; exact hb
      have hb2 : byteAt v i % 256 = byteAt v i := by unfold byteAt; omega
      have hd : V.tdiv 256 = V / 256 := Int.tdiv_eq_ediv_of_nonneg V0
      have HP := Lib.hid (rput_keep HI.out.2.1 (adr a i) (byteAt v i) (adr_lo a i) (adr_hi a i) (byteAt_lo v i) (byteAt_hi v i) (by omega))
      have HV : Hid (V / 256 = v / 2 ^ (8 * (i + 1))) := Lib.hid (by
        rw [HI.out.1, Int.ediv_ediv_of_nonneg (Int.le_of_lt (Int.pow_pos (by omega))), show 8 * (i + 1) = 8 * i + 8 by omega, Int.pow_add]
        rfl)
      clear hb
      go_wp2_with (first
        | (go_at_call 25; refine (HW.out _).mono ?_; rintro e w' ⟨rfl, rfl⟩)
        | (go_at_call 14; refine HP.out.mono ?_; rintro e w3 ⟨⟨rfl, q1, q2⟩, q3⟩))
      have HX := Lib.hid (And.intro HV.out (And.intro q1 (And.intro (HI.out.2.2.1.trans q2) (HI.out.2.2.2.trans q3))))
      have hv0 : 0 ≤ V / 256 := by omega
      have hv1 : V / 256 ≤ 4294967295 := by omega
      clear q1 q2 q3
      go_roundg (N - i)
      case measure => omega
      case rel => exact ⟨i + 1, V / 256, rfl, by go_num, by omega, by omega, hv0, hv1, HX⟩
    · have hlti : ¬ (i : Int) < N := by omega
      obtain rfl : i = N := by omega
      go_wp2_with (go_at_call 25; refine (HW.out _).mono ?_; rintro e w' ⟨rfl, rfl⟩)
      go_end0
      exact ⟨rfl, HI.out.2.1, HI.out.2.2.1, HI.out.2.2.2⟩

theorem rstore_is {B r : Nat} {w : World} {l : List (Int × Int)} (h : RefIs B w r l) (a v m : Int) (a0 : 0 ≤ a) (a1 : a ≤ 4294967295) (v0 : 0 ≤ v) (v1 : v ≤ 4294967295) (hl : l.length ≤ 90000) :
    Calls Try.prog 12 #[.pointer (some ⟨r, 0, none⟩), .int .u32 a, .int .i64 m, .int .u32 v] w fun e w' => e = .returned (.tuple #[]) ∧ RefIs B w' r (storeL v l a (wid m)) ∧ Below B w w' :=
  (rstore_keep h a v m a0 a1 v0 v1 hl).mono fun _ _ q => ⟨q.1, q.2.1, q.2.2.1⟩

/-- The number of d bytes from the t-th on. -/
def tailF (f : Int → Int) (a : Int) : Nat → Nat → Int
  | _, 0 => 0
  | t, d + 1 => f (adr a t) + 256 * tailF f a (t + 1) d
theorem tailF_ok {f : Int → Int} (h : ∀ a, 0 ≤ f a ∧ f a ≤ 255) (a : Int) : ∀ d t, 0 ≤ tailF f a t d ∧ tailF f a t d < 256 ^ d
  | 0, t => by simp [tailF]
  | d + 1, t => by
    obtain ⟨h1, h2⟩ := tailF_ok h a d (t + 1)
    obtain ⟨h3, h4⟩ := h (adr a t)
    have e : (256 : Int) ^ (d + 1) = 256 ^ d * 256 := Int.pow_succ ..
    simp only [tailF]
    omega
theorem load_tail (f : Int → Int) (a : Int) : ∀ d t, loadF f a (t + d) = loadF f a t + 2 ^ (8 * t) * tailF f a t d
  | 0, t => by simp [tailF]
  | d + 1, t => by
    have ih := load_tail f a d (t + 1)
    rw [show t + (d + 1) = t + 1 + d by omega, ih]
    simp only [loadF, tailF]
    rw [show 8 * (t + 1) = 8 * t + 8 by omega, Int.pow_add, Int.mul_add, show (2 : Int) ^ 8 = 256 by rfl, Int.mul_assoc, Int.mul_comm (f (adr a t)), Int.add_assoc]

set_option maxRecDepth 100000 in
set_option maxHeartbeats 2000000 in
theorem rload_is {B r : Nat} {w : World} {l : List (Int × Int)} (h : RefIs B w r l) (hok : ∀ a, 0 ≤ lookF l a ∧ lookF l a ≤ 255) (a m : Int) (hl : l.length ≤ 90000) :
    Calls Try.prog 16 #[.pointer (some ⟨r, 0, none⟩), .int .u32 a, .int .i64 m] w fun e w' => e = .returned (.int .u32 (loadF (lookF l) a (wid m))) ∧ w' = w := by
  have hw4 := wid_le m
  have hwd := held_is m
  obtain ⟨N, hN⟩ : ∃ N, wid m = N := ⟨_, rfl⟩
  rw [hN] at hw4 hwd ⊢
  have HW := Lib.hid hwd
  have H := Lib.hid h
  have HO := Lib.hid hok
  clear h hwd hN hok
  go_enter Try.func16, Try.ntmps16
  go_wp2_with (go_at_call 25; refine (HW.out _).mono ?_; rintro e w' ⟨rfl, rfl⟩)
  go_loopg [7, 8] (N + 1) (fun fu vv vi wr => ∃ (t : Nat) (V : Int), vv = .int .u32 V ∧ vi = .int .i64 ((t : Int) - 1) ∧ t ≤ N ∧ t + 1 ≤ fu ∧ wr = w' ∧ Hid (V = tailF (lookF l) a t (N - t)))
  case atStart => exact ⟨N, 0, rfl, rfl, Nat.le_refl _, by omega, rfl, Lib.hid (by rw [Nat.sub_self]; rfl)⟩
  case round =>
    obtain ⟨t, V, rfl, hvi, ht, hf, rfl, HV⟩ := hrel
    cases t with
    | succ k =>
      rw [show ((k + 1 : Nat) : Int) - 1 = (k : Int) by omega] at hvi
      subst hvi
      have hk0 : (0 : Int) ≤ (k : Int) := by omega
      have hA : IntKind.u32.wrap (a + (k : Int)) = adr a k := by rw [IntKind.wrap_u32]; rfl
      obtain ⟨t0, t1⟩ := tailF_ok HO.out a (N - (k + 1)) (k + 1)
      rw [← HV.out] at t0 t1
      have h3 : (256 : Int) ^ (N - (k + 1)) ≤ 256 ^ 3 := by
        have h4 : (256 : Nat) ^ (N - (k + 1)) ≤ 256 ^ 3 := Nat.pow_le_pow_right (by omega) (by omega)
        have h5 : (((256 : Nat) ^ (N - (k + 1)) : Nat) : Int) ≤ ((256 ^ 3 : Nat) : Int) := Int.ofNat_le.2 h4
        simpa using h5
      have t2 : V < 16777216 := Int.lt_of_lt_of_le t1 h3
      have hm : IntKind.u32.wrap (256 * V) = 256 * V := by rw [IntKind.wrap_u32]; omega
      obtain ⟨y0, y1⟩ := HO.out (adr a k)
      obtain ⟨y, hy⟩ : ∃ y, lookF l (adr a k) = y := ⟨_, rfl⟩
      have hcall := at_is H.out (adr a k) (by omega)
      rw [hy] at hcall y0 y1
      have hs : IntKind.u32.wrap (256 * V + y) = 256 * V + y := by rw [IntKind.wrap_u32]; omega
      have HC := Lib.hid hcall
      have HX : Hid (256 * V + y = tailF (lookF l) a k (N - k)) := Lib.hid (by
        rw [show N - k = N - (k + 1) + 1 by omega, tailF, hy, ← HV.out]
        omega)
      clear h3 t1 hcall
      go_wp2_with (go_at_call 22; refine HC.out.mono ?_; rintro e w3 ⟨rfl, rfl⟩)
      go_roundg (k + 1)
      case measure => omega
      case rel => exact ⟨k, _, rfl, by go_num, by omega, by omega, rfl, HX⟩
    | zero =>
      rw [show ((0 : Nat) : Int) - 1 = (-1 : Int) by omega] at hvi
      subst hvi
      have HX : Hid (V = loadF (lookF l) a N) := Lib.hid (by
        have := load_tail (lookF l) a N 0
        rw [Nat.zero_add] at this
        rw [this, HV.out]
        simp [loadF])
      go_wp2_with fail
      go_ret
      exact ⟨by rw [← HX.out]; rfl, rfl⟩
end Go.Proofs.Yticfffndciddgaa
