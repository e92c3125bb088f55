/-
  The contracts of the lexer's questions on one byte.
-/
import Derived.Test.YtbhfblogjlpnlaaDoorRxDig
namespace Go.Proofs.YtbhfblogjlpnlaaDoor
open Go.RowKit

/-- The bytes of a slice: an address without a spot, and its cells. -/
structure Bytes (w : World) (b o : Nat) (s : ByteArray) : Prop where
  lt : b < w.heap.size
  cell : ∀ j (hj : j < s.size), w.cell? ⟨b, o + j, none⟩ = some (.int .u8 (s[j].toNat : Int))

theorem dig_iff (c : UInt8) : isDig c = (decide ((48 : Int) ≤ c.toNat) && decide ((c.toNat : Int) ≤ 57)) := all_bytes (p := fun c => isDig c = (decide ((48 : Int) ≤ c.toNat) && decide ((c.toNat : Int) ≤ 57))) (by decide +kernel) c
theorem let_iff (c : UInt8) : isLet c = ((decide ((97 : Int) ≤ c.toNat) && decide ((c.toNat : Int) ≤ 122)) || (decide ((65 : Int) ≤ c.toNat) && decide ((c.toNat : Int) ≤ 90))) := all_bytes (p := fun c => isLet c = ((decide ((97 : Int) ≤ c.toNat) && decide ((c.toNat : Int) ≤ 122)) || (decide ((65 : Int) ≤ c.toNat) && decide ((c.toNat : Int) ≤ 90)))) (by decide +kernel) c
theorem blank_iff (c : UInt8) : isBlank c = (((c.toNat : Int) == 32) || ((c.toNat : Int) == 9) || ((c.toNat : Int) == 13)) := all_bytes (p := fun c => isBlank c = (((c.toNat : Int) == 32) || ((c.toNat : Int) == 9) || ((c.toNat : Int) == 13))) (by decide +kernel) c

set_option maxRecDepth 100000 in
theorem isBlank_any (c : UInt8) (w : World) : Calls Tryd.prog 51 #[.int .u8 c.toNat] w fun e w' => e = .returned (.bool (isBlank c)) ∧ w = w' := by
  rw [blank_iff]
  generalize (c.toNat : Int) = x
  cases h1 : x == 32 <;> cases h2 : x == 9
  all_goals
    go_enter Tryd.func51, Tryd.ntmps51
    go_wp2
    go_ret
    exact ⟨rfl, rfl⟩

set_option maxRecDepth 100000 in
theorem isDigit_any (c : UInt8) (w : World) : Calls Tryd.prog 77 #[.int .u8 c.toNat] w fun e w' => e = .returned (.bool (isDig c)) ∧ w = w' := by
  rw [dig_iff]
  generalize (c.toNat : Int) = x
  by_cases h1 : 48 ≤ x
  all_goals
    go_enter Tryd.func77, Tryd.ntmps77
    go_wp2
    go_ret
    exact ⟨by first | (simp [h1]; done) | (simp; omega), rfl⟩

set_option maxRecDepth 100000 in
theorem isLetter_any (c : UInt8) (w : World) : Calls Tryd.prog 80 #[.int .u8 c.toNat] w fun e w' => e = .returned (.bool (isLet c)) ∧ w = w' := by
  rw [let_iff]
  generalize (c.toNat : Int) = x
  by_cases h1 : 97 ≤ x <;> by_cases h2 : x ≤ 122 <;> by_cases h3 : 65 ≤ x
  all_goals
    go_enter Tryd.func80, Tryd.ntmps80
    go_wp2
    go_ret
    exact ⟨by first | (simp [h1, h2, h3]; done) | (simp [h1, h2]; omega), rfl⟩

theorem eq_nat (c : UInt8) (k : Nat) (hk : k < 256) : (c == UInt8.ofNat k) = ((c.toNat : Int) == k) := by
  rw [Bool.eq_iff_iff, beq_iff_eq, beq_iff_eq]
  constructor
  · intro h
    have := congrArg UInt8.toNat h
    rw [UInt8.toNat_ofNat_of_lt' hk] at this
    omega
  · intro h
    apply UInt8.toNat_inj.1
    rw [UInt8.toNat_ofNat_of_lt' hk]
    omega

set_option maxRecDepth 100000 in
theorem goesOn_any (c : UInt8) (w : World) : Calls Tryd.prog 76 #[.int .u8 c.toNat] w fun e w' => e = .returned (.bool (goOn c)) ∧ w = w' := by
  have HL := Lib.hid (fun W => isLetter_any c W)
  have HD := Lib.hid (fun W => isDigit_any c W)
  have hu := eq_nat c 95 (by decide)
  unfold goOn
  rw [show (c == 95) = ((c.toNat : Int) == 95) from hu]
  clear hu
  generalize isLet c = l at *
  generalize isDig c = d at *
  generalize hx : (c.toNat : Int) = x at *
  clear hx
  cases l <;> cases d
  all_goals
    go_enter Tryd.func76, Tryd.ntmps76
    go_wp2_with (first | (go_at_call 80; refine (HL.out _).mono ?_; rintro e w' ⟨rfl, rfl⟩) | (go_at_call 77; refine (HD.out _).mono ?_; rintro e w' ⟨rfl, rfl⟩))
    go_ret
    exact ⟨rfl, rfl⟩

set_option maxRecDepth 100000 in
theorem goesOnInName_any (c : UInt8) (w : World) : Calls Tryd.prog 81 #[.int .u8 c.toNat] w fun e w' => e = .returned (.bool (goOnName c)) ∧ w = w' := by
  have HG := Lib.hid (fun W => goesOn_any c W)
  have h1 := eq_nat c 46 (by decide)
  have h2 := eq_nat c 36 (by decide)
  unfold goOnName
  rw [show (c == 46) = ((c.toNat : Int) == 46) from h1, show (c == 36) = ((c.toNat : Int) == 36) from h2]
  clear h1 h2
  generalize goOn c = l at *
  generalize hx : (c.toNat : Int) = x at *
  clear hx
  cases l <;> cases h3 : x == 46
  all_goals
    go_enter Tryd.func81, Tryd.ntmps81
    go_wp2_with (first | (go_at_call 76; refine (HG.out _).mono ?_; rintro e w' ⟨rfl, rfl⟩))
    go_ret
    exact ⟨rfl, rfl⟩

/-- digit: of a byte that is none, 99. -/
theorem digV_iff (c : UInt8) : (digV c : Int) = if (48 : Int) ≤ c.toNat ∧ (c.toNat : Int) ≤ 57 then (c.toNat : Int) - 48 else if (97 : Int) ≤ c.toNat ∧ (c.toNat : Int) ≤ 102 then (c.toNat : Int) - 87 else if (65 : Int) ≤ c.toNat ∧ (c.toNat : Int) ≤ 70 then (c.toNat : Int) - 55 else 99 :=
  all_bytes (p := fun c => (digV c : Int) = if (48 : Int) ≤ c.toNat ∧ (c.toNat : Int) ≤ 57 then (c.toNat : Int) - 48 else if (97 : Int) ≤ c.toNat ∧ (c.toNat : Int) ≤ 102 then (c.toNat : Int) - 87 else if (65 : Int) ≤ c.toNat ∧ (c.toNat : Int) ≤ 70 then (c.toNat : Int) - 55 else 99) (by decide +kernel) c

set_option maxRecDepth 100000 in
theorem digit_any (c : UInt8) (w : World) : Calls Tryd.prog 99 #[.int .u8 c.toNat] w fun e w' => e = .returned (.int .u32 (digV c)) ∧ w = w' := by
  have HD := Lib.hid (fun W => isDigit_any c W)
  rw [dig_iff] at HD
  rw [digV_iff]
  have hc := c.toNat_lt
  have hx0 : (0 : Int) ≤ (c.toNat : Int) := by omega
  have hx1 : (c.toNat : Int) < 256 := by omega
  clear hc
  generalize hx : (c.toNat : Int) = x at *
  clear hx
  by_cases h0 : 48 ≤ x ∧ x ≤ 57
  · rw [if_pos h0]
    have hb : (decide (48 ≤ x) && decide (x ≤ 57)) = true := by simp [h0]
    rw [hb] at HD
    clear hb
    obtain ⟨h1, h2⟩ := h0
    go_enter Tryd.func99, Tryd.ntmps99
    go_wp2_with (first | (go_at_call 77; refine (HD.out _).mono ?_; rintro e w' ⟨rfl, rfl⟩))
    go_ret
    exact ⟨rfl, rfl⟩
  · rw [if_neg h0]
    have hb : (decide (48 ≤ x) && decide (x ≤ 57)) = false := by
      rw [← Bool.decide_and]
      exact decide_eq_false h0
    rw [hb] at HD
    clear hb h0
    by_cases h1 : 97 ≤ x
    · by_cases h2 : x ≤ 102
      · rw [if_pos ⟨h1, h2⟩]
        have HV : Hid (x - 87 = x - 97 + 10) := Lib.hid (by omega)
        go_enter Tryd.func99, Tryd.ntmps99
        go_wp2_with (first | (go_at_call 77; refine (HD.out _).mono ?_; rintro e w' ⟨rfl, rfl⟩))
        go_ret
        exact ⟨ret_int' (by rw [HV.out]), rfl⟩
      · have h3 : ¬ x ≤ 70 := by omega
        rw [if_neg (fun h => h2 h.2), if_neg (fun h => h3 h.2)]
        go_enter Tryd.func99, Tryd.ntmps99
        go_wp2_with (first | (go_at_call 77; refine (HD.out _).mono ?_; rintro e w' ⟨rfl, rfl⟩))
        go_ret
        exact ⟨rfl, rfl⟩
    · rw [if_neg (fun h => h1 h.1)]
      by_cases h2 : 65 ≤ x
      · by_cases h3 : x ≤ 70
        · rw [if_pos ⟨h2, h3⟩]
          have HV : Hid (x - 55 = x - 65 + 10) := Lib.hid (by omega)
          go_enter Tryd.func99, Tryd.ntmps99
          go_wp2_with (first | (go_at_call 77; refine (HD.out _).mono ?_; rintro e w' ⟨rfl, rfl⟩))
          go_ret
          exact ⟨ret_int' (by rw [HV.out]), rfl⟩
        · rw [if_neg (fun h => h3 h.2)]
          go_enter Tryd.func99, Tryd.ntmps99
          go_wp2_with (first | (go_at_call 77; refine (HD.out _).mono ?_; rintro e w' ⟨rfl, rfl⟩))
          go_ret
          exact ⟨rfl, rfl⟩
      · rw [if_neg (fun h => h2 h.1)]
        go_enter Tryd.func99, Tryd.ntmps99
        go_wp2_with (first | (go_at_call 77; refine (HD.out _).mono ?_; rintro e w' ⟨rfl, rfl⟩))
        go_ret
        exact ⟨rfl, rfl⟩
end Go.Proofs.YtbhfblogjlpnlaaDoor
