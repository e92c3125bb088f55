/-
  The contract of the lexer's token: the document's. Conditions: the slice's bytes lie in the memory; it has a byte, and at most 65536.
-/
import Derived.Test.YtbhfblogjlpnlaaDoorIxTokA
namespace Go.Proofs.YtbhfblogjlpnlaaDoor
open Go.RowKit

theorem tokC_64 (r : Bs) : tokC 64 r = if 0 < pre goOn r ∧ isDig (r.getD 0 0) = false then .ok 2 (r.take (pre goOn r)) 0 (pre goOn r + 1) else .bad 2 := rfl
theorem tokC_92 (r : Bs) : tokC 92 r = if 0 < pre goOn r ∧ isDig (r.getD 0 0) = false then .ok 3 (r.take (pre goOn r)) 0 (pre goOn r + 1) else .bad 2 := rfl
theorem tokC_37 (r : Bs) : tokC 37 r = if r.take (pre goOn r) = [104, 105] ∨ r.take (pre goOn r) = [108, 111] ∨ r.take (pre goOn r) = [112, 99, 114, 101, 108] then .ok 4 (r.take (pre goOn r)) 0 (pre goOn r + 1) else .bad 2 := rfl
theorem tokC_39 (r : Bs) : tokC 39 r = charR r := (show tokC 39 r = _ from rfl).trans (char_is r)
theorem tokC_34 (r : Bs) : tokC 34 r = match body 34 0 r with
      | some (bs, n) => .ok 6 bs 0 (n + 1)
      | none => .bad 4 := rfl
theorem tokC_60 (r : Bs) : tokC 60 r = if r.getD 0 0 = 60 ∧ 0 < r.length then .ok 7 [60, 60] 0 2 else .bad 2 := rfl
theorem tokC_62 (r : Bs) : tokC 62 r = if r.getD 0 0 = 62 ∧ 0 < r.length then .ok 7 [62, 62] 0 2 else .bad 2 := rfl
theorem mark_cases {c : UInt8} (h : isMark c = true) : c = 44 ∨ c = 58 ∨ c = 40 ∨ c = 41 ∨ c = 43 ∨ c = 45 ∨ c = 42 ∨ c = 47 ∨ c = 38 ∨ c = 124 ∨ c = 94 ∨ c = 126 ∨ c = 61 := by
  simpa [isMark, or_assoc] using h
theorem tokC_mark {c : UInt8} (r : Bs) (h : isMark c = true) : tokC c r = .ok 7 [c] 0 1 := by
  rcases mark_cases h with rfl | rfl | rfl | rfl | rfl | rfl | rfl | rfl | rfl | rfl | rfl | rfl | rfl <;> rfl
theorem head_not_dig (c : UInt8) : isHead c = true → isDig c = false := all_bytes (p := fun c => isHead c = true → isDig c = false) (by decide +kernel) c
theorem tokC_plain {c : UInt8} (r : Bs) (q64 : c ≠ 64) (q92 : c ≠ 92) (q37 : c ≠ 37) (q39 : c ≠ 39) (q34 : c ≠ 34) (q60 : c ≠ 60) (q62 : c ≠ 62) (q44 : c ≠ 44) (q58 : c ≠ 58) (q40 : c ≠ 40) (q41 : c ≠ 41) (q43 : c ≠ 43) (q45 : c ≠ 45) (q42 : c ≠ 42) (q47 : c ≠ 47) (q38 : c ≠ 38) (q124 : c ≠ 124) (q94 : c ≠ 94) (q126 : c ≠ 126) (q61 : c ≠ 61) : tokC c r = if isDig c then (match numeral (c :: r) with
      | some (v, n) => .ok 5 [] v n
      | none => .bad 3) else if isHead c then .ok 1 ((c :: r).take (pre goOnName (c :: r))) 0 (pre goOnName (c :: r)) else .bad 2 := by
  have hm : isMark c = false := by
    rw [← Bool.not_eq_true]
    intro h
    rcases mark_cases h with h | h | h | h | h | h | h | h | h | h | h | h | h
    · exact q44 h
    · exact q58 h
    · exact q40 h
    · exact q41 h
    · exact q43 h
    · exact q45 h
    · exact q42 h
    · exact q47 h
    · exact q38 h
    · exact q124 h
    · exact q94 h
    · exact q126 h
    · exact q61 h
  unfold tokC
  cases hh : isHead c with
  | true => rw [head_not_dig c hh]; rfl
  | false =>
    cases isDig c with
    | true => rfl
    | false => rw [if_neg (by decide), if_neg (by decide), if_neg q39, if_neg q34, if_neg q37, if_neg q64, if_neg q92, if_neg (fun h => h.elim q60 q62), hm]; rfl

theorem token_is (s : ByteArray) (b o c : Nat) (w : World) (hs : s.size ≤ 65536) (h0 : 0 < s.size) (hc : s.size ≤ c) (hB : Bytes w b o s) :
    Calls Tryd.prog 36 #[.slice (some ⟨b, o, none⟩) s.size c] w (ITok w (tokR s.data.toList)) := by
  have hB1 : Bytes (w.alloc zerosI) b o s := hB.below ((Below.refl _ _).alloc (Nat.le_refl _) _)
  rw [tok_at s h0]
  by_cases h64 : (s[0]'h0) = 64
  · rw [h64, tokC_64]
    exact tk_local s b o c w h0 hB h64 _ (Lib.hid (marked_any 2 s b o c _ _ _ hs h0 hc hB1 rfl rfl))
  by_cases h92 : (s[0]'h0) = 92
  · rw [h92, tokC_92]
    exact tk_param s b o c w h0 hB h92 _ (Lib.hid (marked_any 3 s b o c _ _ _ hs h0 hc hB1 rfl rfl))
  by_cases h37 : (s[0]'h0) = 37
  · rw [h37, tokC_37]
    exact tk_func s b o c w h0 hB h37 _ (Lib.hid (function_any s b o c _ _ _ hs h0 hc hB1 rfl rfl))
  by_cases h39 : (s[0]'h0) = 39
  · rw [h39, tokC_39]
    exact tk_char s b o c w h0 hB h39 _ (Lib.hid (character_any s b o c _ hs h0 hc hB1 h39))
  by_cases h34 : (s[0]'h0) = 34
  · rw [h34, tokC_34]
    exact tk_text s b o c w h0 hB h34 _ (Lib.hid (text_is s b o c _ hs h0 hc hB1 h34))
  by_cases h60 : (s[0]'h0) = 60
  · rw [h60, tokC_60]
    exact tk_two60 s b o c w hs h0 hc hB h60
  by_cases h62 : (s[0]'h0) = 62
  · rw [h62, tokC_62]
    exact tk_two62 s b o c w hs h0 hc hB h62
  by_cases hm : isMark (s[0]'h0) = true
  · rw [tokC_mark _ hm]
    rcases mark_cases hm with h | h | h | h | h | h | h | h | h | h | h | h | h
    · rw [h]; exact tk_mark44 s b o c w hs h0 hc hB h
    · rw [h]; exact tk_mark58 s b o c w hs h0 hc hB h
    · rw [h]; exact tk_mark40 s b o c w hs h0 hc hB h
    · rw [h]; exact tk_mark41 s b o c w hs h0 hc hB h
    · rw [h]; exact tk_mark43 s b o c w hs h0 hc hB h
    · rw [h]; exact tk_mark45 s b o c w hs h0 hc hB h
    · rw [h]; exact tk_mark42 s b o c w hs h0 hc hB h
    · rw [h]; exact tk_mark47 s b o c w hs h0 hc hB h
    · rw [h]; exact tk_mark38 s b o c w hs h0 hc hB h
    · rw [h]; exact tk_mark124 s b o c w hs h0 hc hB h
    · rw [h]; exact tk_mark94 s b o c w hs h0 hc hB h
    · rw [h]; exact tk_mark126 s b o c w hs h0 hc hB h
    · rw [h]; exact tk_mark61 s b o c w hs h0 hc hB h
  · rw [Bool.not_eq_true] at hm
    have q44 : (s[0]'h0) ≠ 44 := fun h => by rw [h] at hm; exact absurd hm (by decide)
    have q58 : (s[0]'h0) ≠ 58 := fun h => by rw [h] at hm; exact absurd hm (by decide)
    have q40 : (s[0]'h0) ≠ 40 := fun h => by rw [h] at hm; exact absurd hm (by decide)
    have q41 : (s[0]'h0) ≠ 41 := fun h => by rw [h] at hm; exact absurd hm (by decide)
    have q43 : (s[0]'h0) ≠ 43 := fun h => by rw [h] at hm; exact absurd hm (by decide)
    have q45 : (s[0]'h0) ≠ 45 := fun h => by rw [h] at hm; exact absurd hm (by decide)
    have q42 : (s[0]'h0) ≠ 42 := fun h => by rw [h] at hm; exact absurd hm (by decide)
    have q47 : (s[0]'h0) ≠ 47 := fun h => by rw [h] at hm; exact absurd hm (by decide)
    have q38 : (s[0]'h0) ≠ 38 := fun h => by rw [h] at hm; exact absurd hm (by decide)
    have q124 : (s[0]'h0) ≠ 124 := fun h => by rw [h] at hm; exact absurd hm (by decide)
    have q94 : (s[0]'h0) ≠ 94 := fun h => by rw [h] at hm; exact absurd hm (by decide)
    have q126 : (s[0]'h0) ≠ 126 := fun h => by rw [h] at hm; exact absurd hm (by decide)
    have q61 : (s[0]'h0) ≠ 61 := fun h => by rw [h] at hm; exact absurd hm (by decide)
    rw [tokC_plain _ h64 h92 h37 h39 h34 h60 h62 q44 q58 q40 q41 q43 q45 q42 q47 q38 q124 q94 q126 q61, ← drop_zero_at s h0]
    refine tk_plain s b o c w h0 hB (beq_nat_f (k := 64) (by decide) h64) (beq_nat_f (k := 92) (by decide) h92) (beq_nat_f (k := 37) (by decide) h37) (beq_nat_f (k := 39) (by decide) h39) (beq_nat_f (k := 34) (by decide) h34) (beq_nat_f (k := 60) (by decide) h60) (beq_nat_f (k := 62) (by decide) h62) (beq_nat_f (k := 44) (by decide) q44) (beq_nat_f (k := 58) (by decide) q58) (beq_nat_f (k := 40) (by decide) q40) (beq_nat_f (k := 41) (by decide) q41) (beq_nat_f (k := 43) (by decide) q43) (beq_nat_f (k := 45) (by decide) q45) (beq_nat_f (k := 42) (by decide) q42) (beq_nat_f (k := 47) (by decide) q47) (beq_nat_f (k := 38) (by decide) q38) (beq_nat_f (k := 124) (by decide) q124) (beq_nat_f (k := 94) (by decide) q94) (beq_nat_f (k := 126) (by decide) q126) (beq_nat_f (k := 61) (by decide) q61) _ (Lib.hid ?_)
    cases hd : isDig (s[0]'h0) with
    | true => exact plain_dig s b o c _ hs h0 hc hB1 hd
    | false => exact plain_name s b o c _ hs h0 hc hB1 hd
end Go.Proofs.YtbhfblogjlpnlaaDoor
