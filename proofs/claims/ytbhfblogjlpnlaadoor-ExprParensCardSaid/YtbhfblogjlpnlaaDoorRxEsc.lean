/-
  The contract of the reference lexer's escape. Conditions: the string begins with a backslash; its length is within the model's bound.
-/
import Derived.Test.YtbhfblogjlpnlaaDoorRxDig
import Derived.Deep.RegionWith
namespace Go.Proofs.YtbhfblogjlpnlaaDoor
open Go.RowKit

def Drew (w wr : World) : Prop := ∃ q, wr = w.drewN q
theorem Drew.start (w : World) : Drew w w := ⟨0, rfl⟩
theorem Drew.more {w wr : World} (h : Drew w wr) (q : Nat) : Drew w (wr.drewN q) := by obtain ⟨m, rfl⟩ := h; exact ⟨m + q, by simp⟩
theorem Drew.trans {w w1 w2 : World} (h : Drew w w1) (h2 : Drew w1 w2) : Drew w w2 := by obtain ⟨m, rfl⟩ := h2; exact h.more m
theorem Drew.below {w wr : World} (h : Drew w wr) : Below w.heap.size w wr := by obtain ⟨m, rfl⟩ := h; exact ⟨rfl, rfl, rfl, Nat.le_refl _, fun _ _ => rfl⟩
theorem Drew.old {w wr : World} (h : Drew w wr) {a : Addr} {v : Value} (hv : w.cell? a = some v) : wr.cell? a = some v := by obtain ⟨m, rfl⟩ := h; exact hv

theorem same_turn {P : Program} {f : FuncId} {args : Array Value} {v : Value} {w : World} (h : Calls P f args w fun e w' => e = .returned v ∧ w = w') : Calls P f args w fun e w' => e = .returned v ∧ w' = w := h.mono fun _ _ h => ⟨h.1, h.2.symm⟩

theorem at_getD (s : ByteArray) (k : Nat) (h : k < s.size) : s.data.toList.getD k 0 = s[k] := by
  have h2 : k < s.data.toList.length := by simpa using h
  rw [List.getD_eq_getElem?_getD, List.getElem?_eq_getElem h2]
  rfl

/-- A byte and a length, or none. -/
def unitB (r : Option (UInt8 × Nat)) : Int := match r with | some x => x.1.toNat | none => 0
def unitN (r : Option (UInt8 × Nat)) : Nat := match r with | some x => x.2 | none => 0
def UnitOut (r : Option (UInt8 × Nat)) (e : Ending) : Prop := e = .returned (.tuple #[.int .u8 (unitB r), .int .i64 (unitN r)])

def escNames : List Nat := [110, 116, 114, 48, 92, 39, 34]
theorem esc_miss (c : UInt8) : (∀ i, i < 7 → c.toNat ≠ escNames.getD i 0) → escName c = none :=
  all_bytes (p := fun c => (∀ i, i < 7 → c.toNat ≠ escNames.getD i 0) → escName c = none) (by decide +kernel) c
theorem esc_n (c : UInt8) : (c.toNat = 110 → escName c = some 10) ∧ (c.toNat = 116 → escName c = some 9) ∧ (c.toNat = 114 → escName c = some 13) ∧ (c.toNat = 48 → escName c = some 0) ∧ (c.toNat = 92 → escName c = some 92) ∧ (c.toNat = 39 → escName c = some 39) ∧ (c.toNat = 34 → escName c = some 34) :=
  all_bytes (p := fun c => (c.toNat = 110 → escName c = some 10) ∧ (c.toNat = 116 → escName c = some 9) ∧ (c.toNat = 114 → escName c = some 13) ∧ (c.toNat = 48 → escName c = some 0) ∧ (c.toNat = 92 → escName c = some 92) ∧ (c.toNat = 39 → escName c = some 39) ∧ (c.toNat = 34 → escName c = some 34)) (by decide +kernel) c

theorem esc_hit (c : UInt8) (k : Nat) (hk : k < 7) (h : (c.toNat : Int) = ((⟨#[110, 116, 114, 48, 92, 39, 34]⟩ : ByteArray)[k]'hk).toNat) : escName c = some ((⟨#[10, 9, 13, 0, 92, 39, 34]⟩ : ByteArray)[k]'hk) := by
  obtain ⟨h0, h1, h2, h3, h4, h5, h6⟩ := esc_n c
  rcases (show k = 0 ∨ k = 1 ∨ k = 2 ∨ k = 3 ∨ k = 4 ∨ k = 5 ∨ k = 6 by omega) with rfl | rfl | rfl | rfl | rfl | rfl | rfl
  · exact h0 (Int.ofNat.inj h)
  · exact h1 (Int.ofNat.inj h)
  · exact h2 (Int.ofNat.inj h)
  · exact h3 (Int.ofNat.inj h)
  · exact h4 (Int.ofNat.inj h)
  · exact h5 (Int.ofNat.inj h)
  · exact h6 (Int.ofNat.inj h)
theorem esc_no (c : UInt8) (k : Nat) (hk : k < 7) (h : ¬ (c.toNat : Int) = ((⟨#[110, 116, 114, 48, 92, 39, 34]⟩ : ByteArray)[k]'hk).toNat) : c.toNat ≠ escNames.getD k 0 := by
  intro e
  apply h
  rw [e]
  rcases (show k = 0 ∨ k = 1 ∨ k = 2 ∨ k = 3 ∨ k = 4 ∨ k = 5 ∨ k = 6 by omega) with rfl | rfl | rfl | rfl | rfl | rfl | rfl <;> rfl
theorem esc_x : escName 120 = none := by decide
theorem escR_name {l : Bs} {b : UInt8} (h : 2 ≤ l.length) (hn : escName (l.getD 1 0) = some b) : escR l = some (b, 2) := by
  unfold escR
  rw [if_neg (by omega), hn]
theorem escR_x {l : Bs} (h : 2 ≤ l.length) (hn : escName (l.getD 1 0) = none) : escR l = if l.getD 1 0 = 120 ∧ 3 < l.length ∧ digV (l.getD 2 0) < 16 ∧ digV (l.getD 3 0) < 16 then some (UInt8.ofNat (digV (l.getD 2 0) * 16 + digV (l.getD 3 0)), 4) else none := by
  unfold escR
  rw [if_neg (by omega), hn]

theorem hex_two {a b : Nat} (h1 : a < 16) (h2 : b < 16) : (UInt8.ofNat (a * 16 + b)).toNat = a * 16 + b := by
  rw [UInt8.toNat_ofNat']
  omega

set_option maxRecDepth 100000 in
set_option maxHeartbeats 1000000 in
theorem escape_any (s : ByteArray) (w : World) (hs : s.size ≤ maxLen) (h0 : 0 < s.size) (hb : (s[0].toNat : Int) = 92) :
    Calls Tryd.prog 83 #[.string s] w fun e w' => UnitOut (escR s.data.toList) e ∧ Drew w w' := by
  unfold maxLen at hs
  have hll : s.data.toList.length = s.size := by simp
  by_cases hl : s.size < 2
  · have hr : escR s.data.toList = none := by unfold escR; rw [if_pos (by omega)]
    rw [hr]
    clear hr hb hll
    go_enter Tryd.func83, Tryd.ntmps83
    go_wp2
    go_ret2
    exact ⟨rfl, Drew.start _⟩
  · have hl1 : 1 < s.size := by omega
    have hl2 : ¬ (s.size : Int) < 2 := by omega
    have hl3 : (1 : Int) < s.size := by omega
    have h92 : (((s[0]'h0).toNat : Int) != 92) = false := by rw [hb]; decide
    have hg1 := at_getD s 1 hl1
    have hlen : 2 ≤ s.data.toList.length := by omega
    have HLN := Lib.hid hlen
    have HG1 := Lib.hid hg1
    have HLL := Lib.hid hll
    clear hb hll hg1 hlen
    go_enter Tryd.func83, Tryd.ntmps83
    go_wp2_with fail
    go_loopg [6] 7 (fun g i wr => ∃ k : Nat, k + g = 7 ∧ i = .int .i64 k ∧ Drew w wr ∧ Hid (∀ i, i < k → (s[1]'hl1).toNat ≠ escNames.getD i 0))
    case atStart => exact ⟨0, rfl, rfl, Drew.start _, Lib.hid (fun i hi => absurd hi (by omega))⟩
    case round =>
      obtain ⟨k, hk, rfl, hd, hno⟩ := hrel
      have HD := Lib.hid hd
      have HNO := Lib.hid hno.out
      have HK := Lib.hid hk
      clear hd hno
      by_cases hlt : k < 7
      · have hlt2 : (k : Int) < 7 := by omega
        clear hk
        by_cases heq : ((s[1]'hl1).toNat : Int) = ((⟨#[110, 116, 114, 48, 92, 39, 34]⟩ : ByteArray)[k]'hlt).toNat
        · have hb1 : (((s[1]'hl1).toNat : Int) == ((⟨#[110, 116, 114, 48, 92, 39, 34]⟩ : ByteArray)[k]'hlt).toNat) = true := by simpa using heq
          have HR : Hid (escR s.data.toList = some ((⟨#[10, 9, 13, 0, 92, 39, 34]⟩ : ByteArray)[k]'hlt, 2)) := Lib.hid (escR_name HLN.out (by rw [HG1.out]; exact esc_hit _ k hlt heq))
          clear heq
          go_wp2_with fail
          go_quiet (fail)
          go_wp2_with fail
          go_ret2
          exact ⟨by rw [HR.out]; rfl, HD.out.more _⟩
        · have hb1 : (((s[1]'hl1).toNat : Int) == ((⟨#[110, 116, 114, 48, 92, 39, 34]⟩ : ByteArray)[k]'hlt).toNat) = false := by simpa using heq
          have HNE := Lib.hid (esc_no _ k hlt heq)
          clear heq
          go_wp2_with fail
          go_quiet (fail)
          go_wp2_with fail
          go_roundg (gk - 1)
          case measure => have := HK.out; omega
          case rel =>
            refine ⟨k + 1, by have := HK.out; omega, by go_num, HD.out.more _, Lib.hid fun x hx => ?_⟩
            rcases Nat.lt_or_ge x k with h1 | h1
            · exact HNO.out x h1
            · obtain rfl : x = k := by omega
              exact HNE.out
      · obtain rfl : k = 7 := by omega
        have hn := esc_miss (s[1]'hl1) HNO.out
        have hR := escR_x HLN.out (by rw [HG1.out]; exact hn)
        rw [HG1.out, HLL.out] at hR
        have HRR := Lib.hid hR
        clear hR hn hk
        by_cases hx : ((s[1]'hl1).toNat : Int) = 120
        · have hx2 : (((s[1]'hl1).toNat : Int) == 120) = true := by simpa using hx
          have hx3 : (s[1]'hl1) = 120 := UInt8.toNat_inj.1 (by have : (120 : UInt8).toNat = 120 := rfl; omega)
          have HX3 := Lib.hid hx3
          clear hx hx3
          by_cases h4 : 3 < s.size
          · have h4i : (3 : Int) < s.size := by omega
            have h2i : (2 : Int) < s.size := by omega
            have h2n : 2 < s.size := by omega
            have i2 := fun W => in_any (s[2]'h2n) setHex W (by decide)
            have i3 := fun W => in_any (s[3]'h4) setHex W (by decide)
            rw [in_hex] at i2 i3
            have HV2 := Lib.hid (at_getD s 2 h2n)
            have HV3 := Lib.hid (at_getD s 3 h4)
            by_cases d2 : digV (s[2]'h2n) < 16
            · rw [decide_eq_true d2] at i2
              by_cases d3 : digV (s[3]'h4) < 16
              · rw [decide_eq_true d3] at i3
                have HR : Hid (escR s.data.toList = some (UInt8.ofNat (digV (s[2]'h2n) * 16 + digV (s[3]'h4)), 4)) := Lib.hid (by rw [HRR.out, HV2.out, HV3.out, if_pos ⟨HX3.out, h4, d2, d3⟩])
                have HT := Lib.hid (hex_two d2 d3)
                clear HRR HX3
                have x0 : (0 : Int) ≤ (digV (s[2]'h2n) : Int) := by omega
                have x1 : (digV (s[2]'h2n) : Int) < 16 := by omega
                have y0 : (0 : Int) ≤ (digV (s[3]'h4) : Int) := by omega
                have y1 : (digV (s[3]'h4) : Int) < 16 := by omega
                have z1 : IntKind.u64.wrap ((digV (s[2]'h2n) : Int) * 16) = (digV (s[2]'h2n) : Int) * 16 := IntWalk.u64_in _ (by omega)
                have z2 : IntKind.u64.wrap ((digV (s[2]'h2n) : Int) * 16 + (digV (s[3]'h4) : Int)) = (digV (s[2]'h2n) : Int) * 16 + (digV (s[3]'h4) : Int) := IntWalk.u64_in _ (by omega)
                have z3 : IntKind.u8.wrap ((digV (s[2]'h2n) : Int) * 16 + (digV (s[3]'h4) : Int)) = (digV (s[2]'h2n) : Int) * 16 + (digV (s[3]'h4) : Int) := IntWalk.u8_in _ (by omega)
                go_wp2_with fail
                refine (i2 _).mono ?_
                rintro e w' ⟨rfl, rfl⟩
                go_wp2_with fail
                refine (i3 _).mono ?_
                rintro e w' ⟨rfl, rfl⟩
                go_wp2_with fail
                go_quiet ((go_at_call 82; exact Calls.quiet_of_same (same_turn (rdigit_any _ (by first | exact d2 | exact d3) _))))
                go_wp2
                go_ret2
                exact ⟨by rw [HR.out]; show _ = Ending.returned (.tuple #[.int .u8 ((UInt8.ofNat (digV (s[2]'h2n) * 16 + digV (s[3]'h4))).toNat : Int), .int .i64 4]); rw [HT.out]; push_cast; rfl, HD.out.more _⟩
              · rw [decide_eq_false d3] at i3
                have HR : Hid (escR s.data.toList = none) := Lib.hid (by rw [HRR.out, HV3.out, if_neg (fun h => d3 h.2.2.2)])
                clear HRR
                go_wp2_with fail
                refine (i2 _).mono ?_
                rintro e w' ⟨rfl, rfl⟩
                go_wp2_with fail
                refine (i3 _).mono ?_
                rintro e w' ⟨rfl, rfl⟩
                go_wp2_with fail
                go_ret2
                exact ⟨by rw [HR.out]; rfl, HD.out⟩
            · rw [decide_eq_false d2] at i2
              have HR : Hid (escR s.data.toList = none) := Lib.hid (by rw [HRR.out, HV2.out, if_neg (fun h => d2 h.2.2.1)])
              clear HRR
              go_wp2_with fail
              refine (i2 _).mono ?_
              rintro e w' ⟨rfl, rfl⟩
              go_wp2_with fail
              go_ret2
              exact ⟨by rw [HR.out]; rfl, HD.out⟩
          · have h4i : ¬ (3 : Int) < s.size := by omega
            have HR : Hid (escR s.data.toList = none) := Lib.hid (by rw [HRR.out, if_neg (fun h => h4 h.2.1)])
            clear HRR
            go_wp2_with fail
            go_ret2
            exact ⟨by rw [HR.out]; rfl, HD.out⟩
        · have hx2 : (((s[1]'hl1).toNat : Int) == 120) = false := by simpa using hx
          have HR : Hid (escR s.data.toList = none) := Lib.hid (by rw [HRR.out, if_neg (fun h => hx (by rw [h.1]; rfl))])
          clear HRR hx
          go_wp2_with fail
          go_ret2
          exact ⟨by rw [HR.out]; rfl, HD.out⟩
end Go.Proofs.YtbhfblogjlpnlaaDoor
