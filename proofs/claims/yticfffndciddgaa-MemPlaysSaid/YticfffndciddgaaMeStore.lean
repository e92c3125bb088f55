/-
  The contracts of (*Mem).Store and (*Mem).Lay: bytes put one behind the other. Condition: fewer bytes than the model's bound.
-/
import Derived.Test.YticfffndciddgaaMeBase
namespace Go.Proofs.Yticfffndciddgaa
open Go.RowKit Go.Maps

/-- How many bytes of a number count. -/
def wid (n : Int) : Nat := (min (max n 0) 4).toNat
theorem wid_le (n : Int) : wid n ≤ 4 := by unfold wid; omega

set_option maxRecDepth 100000 in
theorem width_is (n : Int) (w : World) : Calls Try.prog 24 #[.int .i64 n] w fun e w' => e = .returned (.int .i64 (wid n : Nat)) ∧ w = w' := by
  have hw : min (max n 0) 4 = ((wid n : Nat) : Int) := by unfold wid; omega
  go_enter Try.func24, Try.ntmps24
  have hw3 : ∀ x : Int, (4 < if n < 0 then 0 else n) → 4 < n := fun _ h => by split at h <;> omega
  have hw4 : ∀ x : Int, ((if n < 0 then 0 else n) ≤ 4) → n ≤ 4 := fun _ h => by split at h <;> omega
  go_wp2
  all_goals
    go_ret
    refine ⟨?_, rfl⟩
    have hw2 := hw.symm
    first | have hk := hw3 0 (by assumption) | have hk := hw4 0 (by assumption)
    clear hw3 hw4
    clear hw
    simp
    rw [hw2]
    omega

/-- An address some further on. -/
def adr (a : Int) (k : Nat) : Int := (a + k) % 4294967296
theorem adr_lo (a : Int) (k : Nat) : 0 ≤ adr a k := by unfold adr; omega
theorem adr_hi (a : Int) (k : Nat) : adr a k ≤ 4294967295 := by unfold adr; omega
/-- The k-th byte of a number. -/
def byteAt (v : Int) (k : Nat) : Int := v / 2 ^ (8 * k) % 256
theorem byteAt_lo (v : Int) (k : Nat) : 0 ≤ byteAt v k := Int.emod_nonneg _ (by omega)
theorem byteAt_hi (v : Int) (k : Nat) : byteAt v k ≤ 255 := Int.le_of_lt_add_one (Int.emod_lt_of_pos _ (by omega))
/-- k bytes put one behind the other. -/
def laidF (g : Nat → Int) (f : Int → Int) (a : Int) : Nat → Int → Int
  | 0 => f
  | k + 1 => upd (laidF g f a k) (adr a k) (g k)

set_option maxRecDepth 100000 in
set_option maxHeartbeats 2000000 in
theorem store_is {w : World} {p b n : Nat} {f : Int → Int} (h : MemIs w p b n f) (a v m : Int) (h0 : 0 ≤ a) (h1 : a ≤ 4294967295) (v0 : 0 ≤ v) (v1 : v ≤ 4294967295) (hn : n < 900000) :
    Calls Try.prog 11 #[.pointer (some ⟨p, 0, none⟩), .int .u32 a, .int .i64 m, .int .u32 v] w fun e w' => e = .returned (.tuple #[]) ∧ MemIs w' p b (n + wid m) (laidF (byteAt v) f a (wid m)) ∧ w.grownBy w' (some b) := by
  have hw4 := wid_le m
  have hwd := width_is m
  obtain ⟨N, hN⟩ : ∃ N, wid m = N := ⟨_, rfl⟩
  rw [hN] at hw4 hwd ⊢
  have HW := Lib.hid hwd
  have H := Lib.hid h
  clear h hwd hN
  go_enter Try.func11, Try.ntmps11
  go_wp2_with (go_at_call 24; refine (HW.out _).mono ?_; rintro e w' ⟨rfl, rfl⟩)
  go_loopg [11] (N + 1) (fun k vi wr => ∃ i : Nat, vi = .int .i64 i ∧ i ≤ N ∧ N + 1 ≤ i + k ∧ Hid (MemIs wr p b (n + i) (laidF (byteAt v) f a i) ∧ w.grownBy wr (some b)))
  case atStart => exact ⟨0, rfl, Nat.zero_le _, by omega, Lib.hid ⟨H.out, World.grownBy.refl _ _⟩⟩
  case round =>
    obtain ⟨i, rfl, hi, hk, HI⟩ := hrel
    have hA : IntKind.u32.wrap (a + (i : Int)) = adr a i := by rw [IntKind.wrap_u32]; rfl
    by_cases hlt : i < N
    · have hlti : (i : Int) < N := by omega
      have hB : v / 2 ^ (8 * i) % 256 = byteAt v i := rfl
      have hp := put_is HI.out.1 (adr a i) (byteAt v i) (adr_lo a i) (adr_hi a i) (byteAt_lo v i) (byteAt_hi v i) (by omega)
      have HP := Lib.hid hp
      clear hp
      go_wp2_with (go_at_call 23; refine HP.out.mono ?_; rintro e w2 ⟨rfl, q1, q2⟩)
      have HX : Hid (MemIs w2 p b (n + (i + 1)) (laidF (byteAt v) f a (i + 1)) ∧ w.grownBy w2 (some b)) := Lib.hid ⟨q1, HI.out.2.trans q2⟩
      clear q1 q2
      go_roundg (N - i)
      case measure => omega
      case rel => exact ⟨i + 1, by go_num, by omega, by omega, HX⟩
    · have hlti : ¬ (i : Int) < N := by omega
      obtain rfl : i = N := by omega
      go_wp2
      go_end0
      exact ⟨rfl, HI.out.1, HI.out.2⟩
end Go.Proofs.Yticfffndciddgaa
