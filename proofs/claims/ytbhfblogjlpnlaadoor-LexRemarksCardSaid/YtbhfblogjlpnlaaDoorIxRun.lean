/-
  The contracts of the lexer's run: how many of the bytes at the beginning are as asked, for each of its four questions. Conditions: the slice's bytes lie in the memory; it is of at most 65536 bytes.
-/
import Derived.Test.YtbhfblogjlpnlaaDoorIxByte
import Derived.Test.YtbhfblogjlpnlaaDoorRxNum
namespace Go.Proofs.YtbhfblogjlpnlaaDoor
open Go.RowKit

/-- A slice's bytes lie in the memory; of no byte nothing is asked. -/
def Holds (w : World) (A : Option Addr) (s : ByteArray) : Prop := s.size = 0 ∨ ∃ b o, A = some ⟨b, o, none⟩ ∧ Bytes w b o s

theorem Bytes.below {w w' : World} {b o : Nat} {s : ByteArray} (h : Bytes w b o s) (hb : Below w.heap.size w w') : Bytes w' b o s :=
  ⟨Nat.lt_of_lt_of_le h.lt hb.size, fun j hj => (hb.cell (p := ⟨b, o + j, none⟩) h.lt).trans (h.cell j hj)⟩
theorem Holds.below {w w' : World} {A : Option Addr} {s : ByteArray} (h : Holds w A s) (hb : Below w.heap.size w w') : Holds w' A s :=
  h.imp id fun ⟨b, o, ha, hB⟩ => ⟨b, o, ha, hB.below hb⟩

/-- The first k bytes are as asked. -/
def allP (s : ByteArray) (p : UInt8 → Bool) (k : Nat) : Prop := ∀ j (_ : j < s.data.toList.length), j < k → p s.data.toList[j] = true
theorem allP_snoc {s : ByteArray} {p : UInt8 → Bool} {k : Nat} (h : allP s p k) (hk : k < s.size) (hp : p s[k] = true) : allP s p (k + 1) := fun j hj hjk => by
  rcases Nat.lt_or_ge j k with h1 | h1
  · exact h j hj h1
  · have : j = k := by omega
    subst this
    exact hp
theorem allP_stop {s : ByteArray} {p : UInt8 → Bool} {k : Nat} (h : allP s p k) (hk : k < s.size) (hp : p s[k] = false) : pre p s.data.toList = k :=
  takeWhile_all _ _ _ h (fun _ => hp) (by rw [len_size]; omega)
theorem allP_end {s : ByteArray} {p : UInt8 → Bool} (h : allP s p s.size) : pre p s.data.toList = s.size :=
  takeWhile_all _ _ _ h (fun h => absurd h (by rw [len_size]; omega)) (by rw [len_size]; omega)

set_option maxRecDepth 100000 in
set_option maxHeartbeats 1000000 in
theorem run_blank (s : ByteArray) (A : Option Addr) (c : Nat) (w : World) (hs : s.size ≤ 65536) (hh : Holds w A s) :
    Calls Tryd.prog 50 #[.slice A s.size c, .func (.func 51) #[] #[]] w fun e w' => e = .returned (.int .i64 (pre (isBlank) s.data.toList)) ∧ w = w' := by
  have HH := Lib.hid hh
  clear hh
  go_enter Tryd.func50, Tryd.ntmps50
  go_wp2
  go_loop [5, 6, 9] (fun _ _ i => ∃ k : Nat, k ≤ s.size ∧ i = .int .i64 k ∧ allP s (isBlank) k) (fun _ _ i => s.size - (intOf i).toNat)
  case atStart => exact ⟨0, Nat.zero_le _, rfl, fun j _ hj => absurd hj (by omega)⟩
  case round =>
    obtain ⟨k, hk, rfl, H⟩ := hrel
    have HP := Lib.hid H
    clear H
    by_cases hlt : k < s.size
    · obtain ⟨b, o, rfl, hB⟩ := HH.out.resolve_left (by omega)
      have hck := hB.cell k hlt
      clear hB
      have hin := isBlank_any s[k] w
      by_cases hi : (isBlank) s[k] = true
      · have H2 := Lib.hid (allP_snoc HP.out hlt hi)
        have hin2 : Calls Tryd.prog 51 #[.int .u8 (s[k].toNat : Int)] w fun e w' => e = .returned (.bool true) ∧ w = w' := by
          rw [← hi]
          exact hin
        clear hi hin
        go_wp2_with (go_at_call 51; refine hin2.mono ?_; rintro e w' ⟨rfl, rfl⟩)
        go_round
        case rel => exact ⟨k + 1, by omega, by go_num, H2.out⟩
        case measure => simp [intOf]; omega
      · have hi' : (isBlank) s[k] = false := by rwa [Bool.not_eq_true] at hi
        have H2 : Hid (pre (isBlank) s.data.toList = k) := Lib.hid (allP_stop HP.out hlt hi')
        have hin2 : Calls Tryd.prog 51 #[.int .u8 (s[k].toNat : Int)] w fun e w' => e = .returned (.bool false) ∧ w = w' := by
          rw [← hi']
          exact hin
        clear hi hi' hin
        go_wp2_with (go_at_call 51; refine hin2.mono ?_; rintro e w' ⟨rfl, rfl⟩)
        go_ret
        exact ⟨by rw [H2.out]; rfl, rfl⟩
    · obtain rfl : k = s.size := by omega
      have H2 : Hid (pre (isBlank) s.data.toList = s.size) := Lib.hid (allP_end HP.out)
      go_wp2
      go_ret
      exact ⟨by rw [H2.out]; rfl, rfl⟩

set_option maxRecDepth 100000 in
set_option maxHeartbeats 1000000 in
theorem run_on (s : ByteArray) (A : Option Addr) (c : Nat) (w : World) (hs : s.size ≤ 65536) (hh : Holds w A s) :
    Calls Tryd.prog 50 #[.slice A s.size c, .func (.func 76) #[] #[]] w fun e w' => e = .returned (.int .i64 (pre (goOn) s.data.toList)) ∧ w = w' := by
  have HH := Lib.hid hh
  clear hh
  go_enter Tryd.func50, Tryd.ntmps50
  go_wp2
  go_loop [5, 6, 9] (fun _ _ i => ∃ k : Nat, k ≤ s.size ∧ i = .int .i64 k ∧ allP s (goOn) k) (fun _ _ i => s.size - (intOf i).toNat)
  case atStart => exact ⟨0, Nat.zero_le _, rfl, fun j _ hj => absurd hj (by omega)⟩
  case round =>
    obtain ⟨k, hk, rfl, H⟩ := hrel
    have HP := Lib.hid H
    clear H
    by_cases hlt : k < s.size
    · obtain ⟨b, o, rfl, hB⟩ := HH.out.resolve_left (by omega)
      have hck := hB.cell k hlt
      clear hB
      have hin := goesOn_any s[k] w
      by_cases hi : (goOn) s[k] = true
      · have H2 := Lib.hid (allP_snoc HP.out hlt hi)
        have hin2 : Calls Tryd.prog 76 #[.int .u8 (s[k].toNat : Int)] w fun e w' => e = .returned (.bool true) ∧ w = w' := by
          rw [← hi]
          exact hin
        clear hi hin
        go_wp2_with (go_at_call 76; refine hin2.mono ?_; rintro e w' ⟨rfl, rfl⟩)
        go_round
        case rel => exact ⟨k + 1, by omega, by go_num, H2.out⟩
        case measure => simp [intOf]; omega
      · have hi' : (goOn) s[k] = false := by rwa [Bool.not_eq_true] at hi
        have H2 : Hid (pre (goOn) s.data.toList = k) := Lib.hid (allP_stop HP.out hlt hi')
        have hin2 : Calls Tryd.prog 76 #[.int .u8 (s[k].toNat : Int)] w fun e w' => e = .returned (.bool false) ∧ w = w' := by
          rw [← hi']
          exact hin
        clear hi hi' hin
        go_wp2_with (go_at_call 76; refine hin2.mono ?_; rintro e w' ⟨rfl, rfl⟩)
        go_ret
        exact ⟨by rw [H2.out]; rfl, rfl⟩
    · obtain rfl : k = s.size := by omega
      have H2 : Hid (pre (goOn) s.data.toList = s.size) := Lib.hid (allP_end HP.out)
      go_wp2
      go_ret
      exact ⟨by rw [H2.out]; rfl, rfl⟩

set_option maxRecDepth 100000 in
set_option maxHeartbeats 1000000 in
theorem run_name (s : ByteArray) (A : Option Addr) (c : Nat) (w : World) (hs : s.size ≤ 65536) (hh : Holds w A s) :
    Calls Tryd.prog 50 #[.slice A s.size c, .func (.func 81) #[] #[]] w fun e w' => e = .returned (.int .i64 (pre (goOnName) s.data.toList)) ∧ w = w' := by
  have HH := Lib.hid hh
  clear hh
  go_enter Tryd.func50, Tryd.ntmps50
  go_wp2
  go_loop [5, 6, 9] (fun _ _ i => ∃ k : Nat, k ≤ s.size ∧ i = .int .i64 k ∧ allP s (goOnName) k) (fun _ _ i => s.size - (intOf i).toNat)
  case atStart => exact ⟨0, Nat.zero_le _, rfl, fun j _ hj => absurd hj (by omega)⟩
  case round =>
    obtain ⟨k, hk, rfl, H⟩ := hrel
    have HP := Lib.hid H
    clear H
    by_cases hlt : k < s.size
    · obtain ⟨b, o, rfl, hB⟩ := HH.out.resolve_left (by omega)
      have hck := hB.cell k hlt
      clear hB
      have hin := goesOnInName_any s[k] w
      by_cases hi : (goOnName) s[k] = true
      · have H2 := Lib.hid (allP_snoc HP.out hlt hi)
        have hin2 : Calls Tryd.prog 81 #[.int .u8 (s[k].toNat : Int)] w fun e w' => e = .returned (.bool true) ∧ w = w' := by
          rw [← hi]
          exact hin
        clear hi hin
        go_wp2_with (go_at_call 81; refine hin2.mono ?_; rintro e w' ⟨rfl, rfl⟩)
        go_round
        case rel => exact ⟨k + 1, by omega, by go_num, H2.out⟩
        case measure => simp [intOf]; omega
      · have hi' : (goOnName) s[k] = false := by rwa [Bool.not_eq_true] at hi
        have H2 : Hid (pre (goOnName) s.data.toList = k) := Lib.hid (allP_stop HP.out hlt hi')
        have hin2 : Calls Tryd.prog 81 #[.int .u8 (s[k].toNat : Int)] w fun e w' => e = .returned (.bool false) ∧ w = w' := by
          rw [← hi']
          exact hin
        clear hi hi' hin
        go_wp2_with (go_at_call 81; refine hin2.mono ?_; rintro e w' ⟨rfl, rfl⟩)
        go_ret
        exact ⟨by rw [H2.out]; rfl, rfl⟩
    · obtain rfl : k = s.size := by omega
      have H2 : Hid (pre (goOnName) s.data.toList = s.size) := Lib.hid (allP_end HP.out)
      go_wp2
      go_ret
      exact ⟨by rw [H2.out]; rfl, rfl⟩

set_option maxRecDepth 100000 in
/-- number's question: is it a digit of that base? The base lies in a cell. -/
theorem isDigitOf_any (c : UInt8) (base : Nat) (g : Nat) (w : World) (hg : w.cell? ⟨g, 0, none⟩ = some (.int .u32 (base : Int))) :
    Calls Tryd.prog 98 #[.int .u8 (c.toNat : Int), .pointer (some ⟨g, 0, none⟩)] w fun e w' => e = .returned (.bool (decide (digV c < base))) ∧ Drew w w' := by
  have HD := Lib.hid (fun W => same_turn (digit_any c W))
  go_enter Tryd.func98, Tryd.ntmps98
  go_wp2
  go_quiet (first | (go_at_call 99; exact Calls.quiet_of_same (HD.out _)))
  all_goals (try go_wp2)
  go_ret
  exact ⟨rfl, _, rfl⟩

set_option maxRecDepth 100000 in
set_option maxHeartbeats 1000000 in
theorem run_digits (base : Nat) (g : Nat) (s : ByteArray) (A : Option Addr) (c : Nat) (w : World) (hs : s.size ≤ 65536) (hh : Holds w A s) (hg : w.cell? ⟨g, 0, none⟩ = some (.int .u32 (base : Int))) :
    Calls Tryd.prog 50 #[.slice A s.size c, .func (.func 98) #[] #[.pointer (some ⟨g, 0, none⟩)]] w fun e w' => e = .returned (.int .i64 (pre (fun c => decide (digV c < base)) s.data.toList)) ∧ Drew w w' := by
  have HG := Lib.hid hg
  have HH := Lib.hid hh
  clear hh hg
  go_enter Tryd.func50, Tryd.ntmps50
  go_wp2
  go_loopw [5, 6, 9] (fun _ _ i wr => ∃ k : Nat, k ≤ s.size ∧ i = .int .i64 k ∧ allP s (fun c => decide (digV c < base)) k ∧ Drew w wr) (fun _ _ i _ => s.size - (intOf i).toNat)
  case atStart => exact ⟨0, Nat.zero_le _, rfl, fun j _ hj => absurd hj (by omega), Drew.start _⟩
  case round =>
    obtain ⟨k, hk, rfl, H, hd⟩ := hrel
    have HP := Lib.hid H
    clear H
    have HW := Lib.hid hd
    clear hd
    by_cases hlt : k < s.size
    · obtain ⟨b, o, rfl, hB⟩ := HH.out.resolve_left (by omega)
      have hck := HW.out.old (hB.cell k hlt)
      clear hB
      have hin := isDigitOf_any s[k] base g wr (HW.out.old HG.out)
      by_cases hi : digV s[k] < base
      · have H2 := Lib.hid (allP_snoc (p := fun c => decide (digV c < base)) HP.out hlt (decide_eq_true hi))
        rw [decide_eq_true hi] at hin
        have HI := Lib.hid hin
        clear hi hin
        go_wp2_with (go_at_call 98; refine HI.out.mono ?_; rintro e w' ⟨rfl, hd2⟩; have HD2 := Lib.hid hd2; clear hd2)
        go_roundw
        case rel => exact ⟨k + 1, by omega, by go_num, H2.out, HW.out.trans HD2.out⟩
        case measure => simp [intOf]; omega
      · have H2 : Hid (pre (fun c => decide (digV c < base)) s.data.toList = k) := Lib.hid (allP_stop HP.out hlt (decide_eq_false hi))
        rw [decide_eq_false hi] at hin
        have HI := Lib.hid hin
        clear hi hin
        go_wp2_with (go_at_call 98; refine HI.out.mono ?_; rintro e w' ⟨rfl, hd2⟩; have HD2 := Lib.hid hd2; clear hd2)
        go_ret
        exact ⟨by rw [H2.out]; rfl, HW.out.trans HD2.out⟩
    · obtain rfl : k = s.size := by omega
      have H2 : Hid (pre (fun c => decide (digV c < base)) s.data.toList = s.size) := Lib.hid (allP_end HP.out)
      go_wp2
      go_ret
      exact ⟨by rw [H2.out]; rfl, HW.out⟩
end Go.Proofs.YtbhfblogjlpnlaaDoor
