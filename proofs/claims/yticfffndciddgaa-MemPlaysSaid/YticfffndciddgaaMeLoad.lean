/-
  The contract of (*Mem).Load: a number of some bytes, the lowest first. Condition: as of a memory.
-/
import Derived.Test.YticfffndciddgaaMeCells
import Derived.Laws.Bits64b
namespace Go.Proofs.Yticfffndciddgaa
open Go.RowKit Go.Maps

/-- A number of k bytes, the lowest first. -/
def loadF (f : Int → Int) (a : Int) : Nat → Int
  | 0 => 0
  | k + 1 => loadF f a k + f (adr a k) * 2 ^ (8 * k)
theorem loadF_ok {f : Int → Int} (h : ∀ a, 0 ≤ f a ∧ f a ≤ 255) (a : Int) : ∀ k, 0 ≤ loadF f a k ∧ loadF f a k < 2 ^ (8 * k)
  | 0 => by simp [loadF]
  | k + 1 => by
    obtain ⟨h1, h2⟩ := loadF_ok h a k
    obtain ⟨h3, h4⟩ := h (adr a k)
    have hp : (0 : Int) < 2 ^ (8 * k) := Int.pow_pos (by omega)
    have e : (2 : Int) ^ (8 * (k + 1)) = 256 * 2 ^ (8 * k) := by rw [show 8 * (k + 1) = 8 * k + 8 by omega, Int.pow_add]; omega
    have h5 : 0 ≤ f (adr a k) * 2 ^ (8 * k) := Int.mul_nonneg h3 (by omega)
    have h6 : f (adr a k) * 2 ^ (8 * k) ≤ 255 * 2 ^ (8 * k) := Int.mul_le_mul_of_nonneg_right h4 (by omega)
    simp only [loadF]
    omega

theorem bits_or_u32_nat (a b : Nat) (ha : a < 4294967296) (hb : b < 4294967296) : bits .or .u32 (a : Int) (b : Int) = ((a ||| b : Nat) : Int) := by
  have hx : a ||| b < 2 ^ 32 := Nat.or_lt_two_pow (by omega) (by omega)
  have h1 : (BitVec.ofInt 32 (a : Int)).toNat = a := by
    rw [BitVec.ofInt_natCast, BitVec.toNat_ofNat]; exact Nat.mod_eq_of_lt (by omega)
  have h2 : (BitVec.ofInt 32 (b : Int)).toNat = b := by
    rw [BitVec.ofInt_natCast, BitVec.toNat_ofNat]; exact Nat.mod_eq_of_lt (by omega)
  show IntKind.u32.wrap ((BitVec.ofInt 32 (a : Int) ||| BitVec.ofInt 32 (b : Int)).toNat : Int) = _
  rw [BitVec.toNat_or, h1, h2, IntKind.wrap_u32]
  omega

theorem or_add {v x : Int} {k : Nat} (v0 : 0 ≤ v) (v1 : v < 2 ^ (8 * k)) (x0 : 0 ≤ x) (x1 : x ≤ 255) (hk : k < 4) : bits .or .u32 v (x * 2 ^ (8 * k) % 4294967296) = v + x * 2 ^ (8 * k) := by
  obtain ⟨n, rfl⟩ := Int.eq_ofNat_of_zero_le v0
  obtain ⟨m, rfl⟩ := Int.eq_ofNat_of_zero_le x0
  have hb : m * 2 ^ (8 * k) < 4294967296 := by
    have h1 : 2 ^ (8 * k) ≤ 2 ^ 24 := Nat.pow_le_pow_right (by omega) (by omega)
    have h2 : m * 2 ^ (8 * k) ≤ 255 * 2 ^ 24 := Nat.mul_le_mul (by omega) h1
    omega
  have hn : n < 2 ^ (8 * k) := by
    have : ((n : Nat) : Int) < ((2 ^ (8 * k) : Nat) : Int) := by simpa using v1
    omega
  have hn2 : n < 4294967296 := by
    have h1 : 2 ^ (8 * k) ≤ 2 ^ 24 := Nat.pow_le_pow_right (by omega) (by omega)
    omega
  have e : ((m : Int) * 2 ^ (8 * k)) = ((m * 2 ^ (8 * k) : Nat) : Int) := by simp
  rw [e, Int.emod_eq_of_lt (by omega) (by omega), bits_or_u32_nat n _ hn2 hb, Nat.or_comm, Nat.mul_comm m, ← Nat.two_pow_add_eq_or_of_lt hn m]
  omega

set_option maxRecDepth 100000 in
set_option maxHeartbeats 4000000 in
theorem load_is {w : World} {p b n : Nat} {f : Int → Int} (h : MemIs w p b n f) (a m : Int) (a0 : 0 ≤ a) (a1 : a ≤ 4294967295) :
    Calls Try.prog 15 #[.pointer (some ⟨p, 0, none⟩), .int .u32 a, .int .i64 m] w fun e w' => e = .returned (.int .u32 (loadF f a (wid m))) ∧ w = w' := by
  have hw4 := wid_le m
  have hwd := width_is m
  obtain ⟨N, hN⟩ : ∃ N, wid m = N := ⟨_, rfl⟩
  rw [hN] at hw4 hwd ⊢
  obtain ⟨D, hown, hD⟩ := h.map
  have hc := h.cell
  have HW := Lib.hid hwd
  have HD := Lib.hid hD
  have HL := Lib.hid (loadF_ok h.byte a)
  have HB := Lib.hid h.byte
  clear h hwd hN hD
  go_enter Try.func15, Try.ntmps15
  go_wp2_with (go_at_call 24; refine (HW.out _).mono ?_; rintro e w' ⟨rfl, rfl⟩)
  go_loopg [7, 11] (N + 1) (fun k vo vi wr => ∃ i : Nat, vo = .int .u32 (loadF f a i) ∧ vi = .int .i64 i ∧ i ≤ N ∧ N + 1 ≤ i + k ∧ wr = w)
  case atStart => exact ⟨0, rfl, rfl, Nat.zero_le _, by omega, rfl⟩
  case round =>
    obtain ⟨i, rfl, rfl, hi, hk, rfl⟩ := hrel
    have hA : IntKind.u32.wrap (a + (i : Int)) = adr a i := by rw [IntKind.wrap_u32]; rfl
    by_cases hlt : i < N
    · have hlti : (i : Int) < N := by omega
      obtain ⟨l0, l1⟩ := HL.out i
      obtain ⟨b0, b1⟩ := HB.out (adr a i)
      have hv := (HD.out (adr a i) (adr_lo a i) (adr_hi a i)).1
      have hor := or_add l0 l1 b0 b1 (by omega)
      go_wp2_with (first
        | (at_lookup; refine wpList_lookup_own_int _ rfl _ _ 49 rfl 24 5 .u8 keyed32 Try.underlying49 Try.underlying5 (zero8 _) b n D rfl hown _ _ rfl (key32 (adr_lo a i) (adr_hi a i)) ?_; intro c hat hwc; rw [hv] at hat; injection hat with hat; injection hat with _ hat; subst hat)
        | go_in)
      go_roundg (N - i)
      case measure => omega
      case rel => exact ⟨i + 1, rfl, by go_num, by omega, by omega, rfl⟩
    · have hlti : ¬ (i : Int) < N := by omega
      obtain rfl : i = N := by omega
      go_wp2
      go_ret
      exact ⟨rfl, rfl⟩
end Go.Proofs.Yticfffndciddgaa
