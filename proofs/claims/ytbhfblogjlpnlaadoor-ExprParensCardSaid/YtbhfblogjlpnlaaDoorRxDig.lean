/-
  The contracts of the reference lexer's digit and escape. Conditions: for digit, the byte is a digit of base sixteen; the strings' lengths are within the model's bound.
-/
import Derived.Test.YtbhfblogjlpnlaaDoorLex
import Derived.Test.YtbhfblogjlpnlaaDoorSpec
import Derived.WalkSpells
import Derived.Deep.QuietTactic
import Derived.BigQuiet
import Derived.Deep.LoopGhost
import Derived.Deep.DeepCutAuto
import Derived.IntWalk
import Derived.Outline
namespace Go.Proofs.YtbhfblogjlpnlaaDoor
open Go.RowKit

/-! The sets of bytes, and what they say. -/
@[reducible] def setDig : ByteArray := ⟨#[48, 49, 50, 51, 52, 53, 54, 55, 56, 57]⟩
@[reducible] def setHex : ByteArray := ⟨#[48, 49, 50, 51, 52, 53, 54, 55, 56, 57, 97, 98, 99, 100, 101, 102, 65, 66, 67, 68, 69, 70]⟩
@[reducible] def setBin : ByteArray := ⟨#[48, 49]⟩
@[reducible] def setHead : ByteArray := ⟨#[97, 98, 99, 100, 101, 102, 103, 104, 105, 106, 107, 108, 109, 110, 111, 112, 113, 114, 115, 116, 117, 118, 119, 120, 121, 122, 65, 66, 67, 68, 69, 70, 71, 72, 73, 74, 75, 76, 77, 78, 79, 80, 81, 82, 83, 84, 85, 86, 87, 88, 89, 90, 95, 46]⟩
@[reducible] def setLet : ByteArray := ⟨#[97, 98, 99, 100, 101, 102, 103, 104, 105, 106, 107, 108, 109, 110, 111, 112, 113, 114, 115, 116, 117, 118, 119, 120, 121, 122, 65, 66, 67, 68, 69, 70, 71, 72, 73, 74, 75, 76, 77, 78, 79, 80, 81, 82, 83, 84, 85, 86, 87, 88, 89, 90, 95]⟩
@[reducible] def setGo : ByteArray := ⟨#[97, 98, 99, 100, 101, 102, 103, 104, 105, 106, 107, 108, 109, 110, 111, 112, 113, 114, 115, 116, 117, 118, 119, 120, 121, 122, 65, 66, 67, 68, 69, 70, 71, 72, 73, 74, 75, 76, 77, 78, 79, 80, 81, 82, 83, 84, 85, 86, 87, 88, 89, 90, 95, 48, 49, 50, 51, 52, 53, 54, 55, 56, 57]⟩
@[reducible] def setName : ByteArray := ⟨([97, 98, 99, 100, 101, 102, 103, 104, 105, 106, 107, 108, 109, 110, 111, 112, 113, 114, 115, 116, 117, 118, 119, 120, 121, 122, 65, 66, 67, 68, 69, 70].append [71, 72, 73, 74, 75, 76, 77, 78, 79, 80, 81, 82, 83, 84, 85, 86, 87, 88, 89, 90, 95, 48, 49, 50, 51, 52, 53, 54, 55, 56, 57, 46, 36]).toArray⟩
@[reducible] def setMark : ByteArray := ⟨#[44, 58, 40, 41, 43, 45, 42, 47, 38, 124, 94, 126, 61]⟩
@[reducible] def setBlank : ByteArray := ⟨#[32, 9, 13]⟩
theorem in_dig (c : UInt8) : inSet c setDig = isDig c := all_bytes (p := fun c => inSet c setDig = isDig c) (by decide +kernel) c
theorem in_hex (c : UInt8) : inSet c setHex = decide (digV c < 16) := all_bytes (p := fun c => inSet c setHex = decide (digV c < 16)) (by decide +kernel) c
theorem in_bin (c : UInt8) : inSet c setBin = decide (digV c < 2) := all_bytes (p := fun c => inSet c setBin = decide (digV c < 2)) (by decide +kernel) c
theorem in_dig10 (c : UInt8) : inSet c setDig = decide (digV c < 10) := all_bytes (p := fun c => inSet c setDig = decide (digV c < 10)) (by decide +kernel) c
theorem in_head (c : UInt8) : inSet c setHead = isHead c := all_bytes (p := fun c => inSet c setHead = isHead c) (by decide +kernel) c
theorem in_let (c : UInt8) : inSet c setLet = (goOn c && !isDig c) := all_bytes (p := fun c => inSet c setLet = (goOn c && !isDig c)) (by decide +kernel) c
theorem in_go (c : UInt8) : inSet c setGo = goOn c := all_bytes (p := fun c => inSet c setGo = goOn c) (by decide +kernel) c
theorem in_name (c : UInt8) : inSet c setName = goOnName c := all_bytes (p := fun c => inSet c setName = goOnName c) (by decide +kernel) c
theorem in_mark (c : UInt8) : inSet c setMark = isMark c := all_bytes (p := fun c => inSet c setMark = isMark c) (by decide +kernel) c
theorem in_blank (c : UInt8) : inSet c setBlank = isBlank c := all_bytes (p := fun c => inSet c setBlank = isBlank c) (by decide +kernel) c

theorem run_pre (l : Bs) (set : ByteArray) (p : UInt8 → Bool) (h : ∀ c, inSet c set = p c) : run l set = pre p l := by
  unfold run pre
  congr 2
  funext c
  exact h c

theorem digV_cases (c : UInt8) : digV c < 16 → (48 ≤ c.toNat ∧ c.toNat ≤ 57 ∧ digV c + 48 = c.toNat) ∨ (97 ≤ c.toNat ∧ c.toNat ≤ 102 ∧ digV c + 87 = c.toNat) ∨ (65 ≤ c.toNat ∧ c.toNat ≤ 70 ∧ digV c + 55 = c.toNat) :=
  all_bytes (p := fun c => digV c < 16 → (48 ≤ c.toNat ∧ c.toNat ≤ 57 ∧ digV c + 48 = c.toNat) ∨ (97 ≤ c.toNat ∧ c.toNat ≤ 102 ∧ digV c + 87 = c.toNat) ∨ (65 ≤ c.toNat ∧ c.toNat ≤ 70 ∧ digV c + 55 = c.toNat)) (by decide +kernel) c

theorem ret_int' {k : IntKind} {a b : Int} (h : a = b) : Ending.returned (.int k a) = .returned (.int k b) := by rw [h]

set_option maxRecDepth 100000 in
theorem rdigit_any (c : UInt8) (h : digV c < 16) (w : World) :
    Calls Tryd.prog 82 #[.int .u8 c.toNat] w fun e w' => e = .returned (.int .u64 (digV c)) ∧ w = w' := by
  have hc := digV_cases c h
  clear h
  generalize digV c = d at *
  generalize c.toNat = x at *
  rcases hc with ⟨h1, h2, h3⟩ | ⟨h1, h2, h3⟩ | ⟨h1, h2, h3⟩
  · have q1 : ¬ (97 : Int) ≤ x := by omega
    have q2 : ¬ (65 : Int) ≤ x := by omega
    have HV : Hid ((d : Int) = x - 48) := Lib.hid (by omega)
    clear h3
    go_enter Tryd.func82, Tryd.ntmps82
    go_wp2
    go_ret
    exact ⟨ret_int' (by rw [HV.out]), rfl⟩
  · have q1 : (97 : Int) ≤ x := by omega
    have HV : Hid ((d : Int) = x - 97 + 10) := Lib.hid (by omega)
    clear h3
    go_enter Tryd.func82, Tryd.ntmps82
    go_wp2
    go_ret
    exact ⟨ret_int' (by rw [HV.out]), rfl⟩
  · have q1 : ¬ (97 : Int) ≤ x := by omega
    have q2 : (65 : Int) ≤ x := by omega
    have HV : Hid ((d : Int) = x - 65 + 10) := Lib.hid (by omega)
    clear h3
    go_enter Tryd.func82, Tryd.ntmps82
    go_wp2
    go_ret
    exact ⟨ret_int' (by rw [HV.out]), rfl⟩
end Go.Proofs.YtbhfblogjlpnlaaDoor
