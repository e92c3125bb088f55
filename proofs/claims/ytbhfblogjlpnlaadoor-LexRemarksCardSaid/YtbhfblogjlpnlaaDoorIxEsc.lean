/-
  The contract of the lexer's escape. Conditions: the slice's bytes lie in the memory; it is of at most 65536 bytes.
-/
import Derived.Test.YtbhfblogjlpnlaaDoorIxNum
import Derived.Test.YtbhfblogjlpnlaaDoorShelfI
namespace Go.Proofs.YtbhfblogjlpnlaaDoor
open Go.RowKit

def escLit : List UInt8 := [110, 116, 114, 48, 92, 39, 34]
def escVal : ByteArray := ⟨#[10, 9, 13, 0, 92, 39, 34]⟩
theorem esc_index (c : UInt8) : (Lib.indexByte escLit c = -1 ∧ escName c = none) ∨ ∃ k : Fin 7, Lib.indexByte escLit c = k.1 ∧ escName c = some (escVal[k.1]'k.2) :=
  all_bytes (p := fun c => (Lib.indexByte escLit c = -1 ∧ escName c = none) ∨ ∃ k : Fin 7, Lib.indexByte escLit c = k.1 ∧ escName c = some (escVal[k.1]'k.2)) (by decide +kernel) c

theorem indexByte_at (c : UInt8) (W : World) : Calls Tryd.prog 106 #[.string ⟨#[110, 116, 114, 48, 92, 39, 34]⟩, .int .u8 (c.toNat : Int)] W fun e w' => e = .returned (.int .i64 (Lib.indexByte escLit c)) ∧ W = w' := by
  have h := Any.strings_IndexByte Tryd.laysIB ⟨#[110, 116, 114, 48, 92, 39, 34]⟩ (c.toNat : Int) W
  have hc : ((c.toNat : Int)).toNat.toUInt8 = c := by simp
  rw [hc] at h
  exact h.mono fun e w' ⟨h1, h2⟩ => ⟨h1, h2.symm⟩

theorem or_hex_fin : ∀ a b : Fin 16, bits BinOp.or IntKind.u32 ((a.1 : Int) * 16) (b.1 : Int) % 256 = ((a.1 * 16 + b.1 : Nat) : Int) := by decide +kernel
theorem or_hex {a b : Nat} (ha : a < 16) (hb : b < 16) : bits BinOp.or IntKind.u32 ((a : Int) * 16) (b : Int) % 256 = ((a * 16 + b : Nat) : Int) := or_hex_fin ⟨a, ha⟩ ⟨b, hb⟩

set_option maxRecDepth 100000 in
set_option maxHeartbeats 1000000 in
theorem esc_any (s : ByteArray) (A : Option Addr) (c : Nat) (w : World) (hs : s.size ≤ 65536) (hh : Holds w A s) :
    Calls Tryd.prog 96 #[.slice A s.size c] w fun e w' => UnitOut (escR s.data.toList) e ∧ Drew w w' := by
  have hll : s.data.toList.length = s.size := by simp
  by_cases hl : s.size < 2
  · have hli : (s.size : Int) < 2 := by omega
    have HR : Hid (escR s.data.toList = none) := Lib.hid (by unfold escR; rw [if_pos (by omega)])
    clear hh hll
    go_enter Tryd.func96, Tryd.ntmps96
    go_wp2_with fail
    go_ret2
    exact ⟨by rw [HR.out]; rfl, Drew.start _⟩
  · obtain ⟨b, o, rfl, hB⟩ := hh.resolve_left (by omega)
    clear hh
    have hli : ¬ (s.size : Int) < 2 := by omega
    have hl1 : 1 < s.size := by omega
    have hl3 : (1 : Int) < s.size := by omega
    have hck1 := hB.cell 1 hl1
    have hg1 := at_getD s 1 hl1
    have HLN : Hid (2 ≤ s.data.toList.length) := Lib.hid (by omega)
    have HIX := Lib.hid (fun W => indexByte_at (s[1]'hl1) W)
    by_cases hx : (s[1]'hl1) = 120
    · have hx2 : (((s[1]'hl1).toNat : Int) == 120) = true := by rw [hx]; rfl
      have hR := escR_x (l := s.data.toList) HLN.out (by rw [hg1, hx]; exact esc_x)
      rw [hg1, hll] at hR
      by_cases h4 : 3 < s.size
      · have h4i : ¬ (s.size : Int) < 4 := by omega
        have h2n : 2 < s.size := by omega
        have h2i : (2 : Int) < s.size := by omega
        have h3i : (3 : Int) < s.size := by omega
        have hck2 := hB.cell 2 h2n
        have hck3 := hB.cell 3 h4
        rw [at_getD s 2 h2n, at_getD s 3 h4] at hR
        generalize s[2]'h2n = c2 at hck2 hR
        generalize s[3]'h4 = c3 at hck3 hR
        have HD2 := Lib.hid (fun W => digit_any c2 W)
        have HD3 := Lib.hid (fun W => digit_any c3 W)
        have HRR := Lib.hid hR
        have HX := Lib.hid hx
        clear hB hR hx hg1 hll
        by_cases d2 : digV c2 < 16
        · by_cases d3 : digV c3 < 16
          · have HR : Hid (escR s.data.toList = some (UInt8.ofNat (digV c2 * 16 + digV c3), 4)) := Lib.hid (by rw [HRR.out, if_pos ⟨HX.out, h4, d2, d3⟩])
            have HT := Lib.hid (hex_two d2 d3)
            have g2 : ¬ (15 : Int) < (digV c2 : Int) := by omega
            have g3 : ¬ (15 : Int) < (digV c3 : Int) := by omega
            clear HRR
            go_enter Tryd.func96, Tryd.ntmps96
            go_wp2_with fail
            refine (HD2.out _).mono ?_
            rintro e w' ⟨rfl, rfl⟩
            go_wp2_with fail
            refine (HD3.out _).mono ?_
            rintro e w' ⟨rfl, rfl⟩
            go_wp2_with fail
            go_quiet ((go_at_call 99; exact Calls.quiet_of_same (same_turn (digit_any _ _))))
            go_wp2_with fail
            go_ret2
            exact ⟨by rw [HR.out]; show _ = Ending.returned (.tuple #[.int .u8 ((UInt8.ofNat (digV c2 * 16 + digV c3)).toNat : Int), .int .i64 4]); rw [HT.out, or_hex d2 d3]; rfl, _, rfl⟩
          · have HR : Hid (escR s.data.toList = none) := Lib.hid (by rw [HRR.out, if_neg (fun h => d3 h.2.2.2)])
            have g2 : ¬ (15 : Int) < (digV c2 : Int) := by omega
            have g3 : (15 : Int) < (digV c3 : Int) := by omega
            clear HRR
            go_enter Tryd.func96, Tryd.ntmps96
            go_wp2_with fail
            refine (HD2.out _).mono ?_
            rintro e w' ⟨rfl, rfl⟩
            go_wp2_with fail
            refine (HD3.out _).mono ?_
            rintro e w' ⟨rfl, rfl⟩
            go_wp2_with fail
            go_ret2
            exact ⟨by rw [HR.out]; rfl, Drew.start _⟩
        · have HR : Hid (escR s.data.toList = none) := Lib.hid (by rw [HRR.out, if_neg (fun h => d2 h.2.2.1)])
          have g2 : (15 : Int) < (digV c2 : Int) := by omega
          clear HRR
          go_enter Tryd.func96, Tryd.ntmps96
          go_wp2_with fail
          refine (HD2.out _).mono ?_
          rintro e w' ⟨rfl, rfl⟩
          go_wp2_with fail
          go_ret2
          exact ⟨by rw [HR.out]; rfl, Drew.start _⟩
      · have h4i : (s.size : Int) < 4 := by omega
        have HR : Hid (escR s.data.toList = none) := Lib.hid (by rw [hR, if_neg (fun h => h4 h.2.1)])
        clear hB hR hx hg1 hll
        go_enter Tryd.func96, Tryd.ntmps96
        go_wp2_with fail
        go_ret2
        exact ⟨by rw [HR.out]; rfl, Drew.start _⟩
    · have hx2 : (((s[1]'hl1).toNat : Int) == 120) = false := beq_nat_f (k := 120) (by decide) hx
      rcases esc_index (s[1]'hl1) with ⟨hi, hn⟩ | ⟨⟨k, hk⟩, hi, hn⟩
      · have HR : Hid (escR s.data.toList = none) := Lib.hid (by rw [escR_x HLN.out (by rw [hg1]; exact hn), if_neg (fun h => hx (by rw [← hg1]; exact h.1))])
        rw [hi] at HIX
        clear hB hx hg1 hll hi hn
        go_enter Tryd.func96, Tryd.ntmps96
        go_wp2_with (first | (go_at_call 106; refine (HIX.out _).mono ?_; rintro e w' ⟨rfl, rfl⟩))
        go_ret2
        exact ⟨by rw [HR.out]; rfl, Drew.start _⟩
      · have HR : Hid (escR s.data.toList = some (escVal[k]'hk, 2)) := Lib.hid (escR_name HLN.out (by rw [hg1]; exact hn))
        rw [hi] at HIX
        have hki : (k : Int) < 7 := by omega
        have hk0 : ¬ (k : Int) < 0 := by omega
        clear hB hx hg1 hll hi hn
        go_enter Tryd.func96, Tryd.ntmps96
        go_wp2_with (first | (go_at_call 106; refine (HIX.out _).mono ?_; rintro e w' ⟨rfl, rfl⟩))
        go_ret2
        exact ⟨by rw [HR.out]; rfl, Drew.start _⟩
end Go.Proofs.YtbhfblogjlpnlaaDoor
