/-
  The contract of the reference lexer's token. Condition: the string has a byte, and at most 65536.
-/
import Derived.Test.YtbhfblogjlpnlaaDoorRxTokB
namespace Go.Proofs.YtbhfblogjlpnlaaDoor
open Go.RowKit

theorem ok_tok {s : ByteArray} {w : World} {k : Int} {t : ByteArray} {n : Int} {m : Nat} {l : Bs} (hl : t = ba l) (hm : n = m)
    (h : Calls Tryd.prog 38 #[.string s] w fun e w' => e = .returned (.tuple #[.agg #[.int .i64 k, .int .i64 0, .int .i64 0, .string t, .int .u32 0, .int .i64 0], .int .i64 n, .int .i64 0]) ∧ Below w.heap.size w w') :
    Calls Tryd.prog 38 #[.string s] w (RTok w (.ok k l 0 m)) :=
  h.mono fun _ _ ⟨he, hb⟩ => ⟨⟨0, by rw [he, hl, hm]⟩, hb⟩
theorem bad_tok {s : ByteArray} {w : World} {t : ByteArray} {c : Int}
    (h : Calls Tryd.prog 38 #[.string s] w fun e w' => e = .returned (.tuple #[.agg #[.int .i64 0, .int .i64 0, .int .i64 0, .string t, .int .u32 0, .int .i64 0], .int .i64 0, .int .i64 c]) ∧ Below w.heap.size w w') :
    Calls Tryd.prog 38 #[.string s] w (RTok w (.bad c)) :=
  h.mono fun _ _ ⟨he, hb⟩ => ⟨⟨0, t, 0, he⟩, hb⟩

theorem beq_nat {c : UInt8} {k : Nat} (hk : k < 256) : (((c.toNat : Int) == k) = true ↔ c = UInt8.ofNat k) := by
  rw [beq_iff_eq]
  exact nat_eq c k hk
theorem beq_nat_f {c : UInt8} {k : Nat} (hk : k < 256) (h : c ≠ UInt8.ofNat k) : ((c.toNat : Int) == k) = false := by
  rw [beq_eq_false_iff_ne]
  exact fun e => h ((nat_eq c k hk).1 e)

/-- What is known of a string whose first byte is neither a letter, a digit nor a quote: its first byte, its others, and how many of those go on. -/
structure ElseIn (s : ByteArray) (h0 : 0 < s.size) (c : UInt8) (r : Bs) (n : Nat) : Prop where
  len : r.length + 1 = s.size
  nle : n ≤ s.size - 1
  at0 : (s[0]'h0) = c
  call : ElseAt s h0 n (isMark c)
  lett : ∀ h1, LetAt s h1 (goOn (r.getD 0 0) && !isDig (r.getD 0 0))
  text : (s.extract 1 s.size).extract 0 n = ba (r.take n)
  lst : ∀ l, (((s.extract 1 s.size).extract 0 n).toList == l) = decide (r.take n = l)
  two : ∀ l, ((s.extract 0 2).toList == l) = decide ((c :: r).take 2 = l)
  two2 : s.extract 0 2 = ba ((c :: r).take 2)
  one : s.extract 0 1 = ba ((c :: r).take 1)
  pre0 : n = 0 ∨ goOn (r.getD 0 0) = true

theorem elseIn (s : ByteArray) (hs : s.size ≤ 65536) (h0 : 0 < s.size) (hh : isHead (s[0]'h0) = false) (hd : isDig (s[0]'h0) = false) : ElseIn s h0 (s[0]'h0) (s.data.toList.drop 1) (pre goOn (s.data.toList.drop 1)) := by
  have hsm : ∀ k, (s.extract 1 k).size ≤ maxLen := fun k => by simp [maxLen]; omega
  have hcons : s.data.toList = (s[0]'h0) :: s.data.toList.drop 1 := by
    rw [List.drop_one]
    exact bytes_cons s h0
  have hlen : (s.data.toList.drop 1).length + 1 = s.size := by
    rw [List.length_drop, len_size]
    omega
  have hn := pre_le goOn (s.data.toList.drop 1)
  refine ⟨hlen, by omega, rfl, ⟨fun W => ?_, fun W => ?_, fun W => ?_, fun W => ?_⟩, fun h1 W => ?_, ?_, fun l => ?_, fun l => ?_, ?_, ?_, ?_⟩
  · have := in_any (s[0]'h0) setHead W (by decide)
    rwa [in_head, hh] at this
  · have := in_any (s[0]'h0) setDig W (by decide)
    rwa [in_dig, hd] at this
  · have := in_any (s[0]'h0) setMark W (by decide)
    rwa [in_mark] at this
  · have := while_any (s.extract 1 s.size) setGo W (hsm _) (by decide)
    rwa [run_pre _ _ _ in_go, ext_drop] at this
  · have := in_any ((s.extract 1 s.size)[0]'h1) setLet W (by decide)
    rw [in_let] at this
    have hx := at_getD (s.extract 1 s.size) 0 h1
    rw [ext_drop] at hx
    rw [hx]
    exact this
  · rw [ba_take, ext_drop]
  · rw [str_list, ext_take, ext_drop]
  · rw [str_list, ext_take, ← hcons]
  · rw [ba_take, ← hcons]
  · rw [ba_take, ← hcons]
  · cases s.data.toList.drop 1 with
    | nil => exact .inl rfl
    | cons d r =>
      by_cases hg : goOn d = true
      · exact .inr hg
      · exact .inl (by simp [pre, hg])

/-- What does not begin with two equal signs. -/
theorem ElseIn.not_two {s : ByteArray} {h0 : 0 < s.size} {c : UInt8} {r : Bs} {n : Nat} (hI : ElseIn s h0 c r n) (h : (c ≠ 60 ∧ c ≠ 62) ∨ ¬ (r.getD 0 0 = c ∧ 0 < r.length)) :
    (s.size : Int) ≤ 1 ∨ (1 : Int) < s.size ∧ ((s.extract 0 2).toList == [60, 60]) = false ∧ ((s.extract 0 2).toList == [62, 62]) = false := by
  have hlen := hI.len
  have hp := hI.two
  clear hI
  cases r with
  | nil =>
    left
    simp only [List.length_nil] at hlen
    omega
  | cons d r =>
    right
    simp only [List.length_cons] at hlen
    refine ⟨by omega, ?_, ?_⟩ <;> rw [hp] <;> refine decide_eq_false ?_ <;> simp only [List.take_succ_cons, List.take_zero, List.cons.injEq, and_true]
    · rintro ⟨rfl, rfl⟩
      rcases h with ⟨h, _⟩ | h
      · exact h rfl
      · exact h ⟨rfl, by simp⟩
    · rintro ⟨rfl, rfl⟩
      rcases h with ⟨_, h⟩ | h
      · exact h rfl
      · exact h ⟨rfl, by simp⟩

section
variable (s : ByteArray) (w : World) (hs : s.size ≤ 65536) (h0 : 0 < s.size) (c : UInt8) (r : Bs) (n : Nat) (hI : ElseIn s h0 c r n) (q39 : (((s[0]'h0).toNat : Int) == 39) = false) (q34 : (((s[0]'h0).toNat : Int) == 34) = false)
include hs hI q39 q34

theorem tok_func (h37 : c = 37) : Calls Tryd.prog 38 #[.string s] w (RTok w (if r.take n = [104, 105] ∨ r.take n = [108, 111] ∨ r.take n = [112, 99, 114, 101, 108] then .ok 4 (r.take n) 0 (n + 1) else .bad 2)) := by
  have q : ∀ k : Nat, k < 256 → ((((s[0]'h0).toNat : Int) == k) = true ↔ c = UInt8.ofNat k) := fun k hk => by rw [hI.at0]; exact beq_nat hk
  have q37 := (q 37 (by decide)).2 h37
  have q64 : (((s[0]'h0).toNat : Int) == 64) = false := by rw [hI.at0, h37]; decide
  have q92 : (((s[0]'h0).toNat : Int) == 92) = false := by rw [hI.at0, h37]; decide
  have hE := hI.call
  have hlst := hI.lst
  by_cases b1 : r.take n = [104, 105]
  · rw [if_pos (.inl b1)]
    exact ok_tok hI.text (by omega) (else_func s w hs h0 n hI.nle q39 q34 hE q37 (.inl ((hlst _).trans (decide_eq_true b1))))
  by_cases b2 : r.take n = [108, 111]
  · rw [if_pos (.inr (.inl b2))]
    exact ok_tok hI.text (by omega) (else_func s w hs h0 n hI.nle q39 q34 hE q37 (.inr (.inl ⟨(hlst _).trans (decide_eq_false b1), (hlst _).trans (decide_eq_true b2)⟩)))
  by_cases b3 : r.take n = [112, 99, 114, 101, 108]
  · rw [if_pos (.inr (.inr b3))]
    exact ok_tok hI.text (by omega) (else_func s w hs h0 n hI.nle q39 q34 hE q37 (.inr (.inr ⟨(hlst _).trans (decide_eq_false b1), (hlst _).trans (decide_eq_false b2), (hlst _).trans (decide_eq_true b3)⟩)))
  · rw [if_neg (fun h => h.elim b1 fun h => h.elim b2 b3)]
    have hm : isMark c = false := by rw [h37]; decide
    rw [hm] at hE
    exact bad_tok (else_bad s w hs h0 n hI.nle q39 q34 hE (hI.not_two (.inl (by rw [h37]; decide))) (.inl ⟨q37, q64, q92, (hlst _).trans (decide_eq_false b1), (hlst _).trans (decide_eq_false b2), (hlst _).trans (decide_eq_false b3)⟩))

theorem tok_name (q37 : (((s[0]'h0).toNat : Int) == 37) = false) {k : Int} (hk : (((s[0]'h0).toNat : Int) == 64) = true ∧ k = 2 ∨ (((s[0]'h0).toNat : Int) == 64) = false ∧ (((s[0]'h0).toNat : Int) == 92) = true ∧ k = 3) (hm : isMark c = false) (h6 : c ≠ 60 ∧ c ≠ 62) :
    Calls Tryd.prog 38 #[.string s] w (RTok w (if 0 < n ∧ isDig (r.getD 0 0) = false then .ok k (r.take n) 0 (n + 1) else .bad 2)) := by
  have hk2 : (((s[0]'h0).toNat : Int) == 64) = true ∨ (((s[0]'h0).toNat : Int) == 64) = false ∧ (((s[0]'h0).toNat : Int) == 92) = true := hk.imp (·.1) fun h => ⟨h.1, h.2.1⟩
  have hlen := hI.len
  have hns := hI.nle
  have hE := hI.call
  by_cases hn0 : 0 < n
  · have h1 : 0 < (s.extract 1 s.size).size := by simp; omega
    have hl := hI.lett h1
    rw [hI.pre0.resolve_left (by omega)] at hl
    by_cases hdd : isDig (r.getD 0 0) = false
    · rw [hdd] at hl
      rw [if_pos ⟨hn0, hdd⟩]
      exact ok_tok hI.text (by omega) (else_name s w hs h0 n hns q39 q34 hE q37 hk hn0 h1 hl)
    · rw [if_neg (fun h => hdd h.2)]
      rw [Bool.not_eq_false] at hdd
      rw [hdd] at hl
      rw [hm] at hE
      exact bad_tok (else_bad2 s w hs h0 n hns q39 q34 hE (hI.not_two (.inl h6)) q37 hk2 hn0 h1 hl)
  · rw [if_neg (fun h => hn0 h.1)]
    rw [hm] at hE
    refine bad_tok (else_bad s w hs h0 n hns q39 q34 hE (hI.not_two (.inl h6)) (.inr (.inr ?_)))
    rcases hk2 with q64 | ⟨q64, q92⟩
    · exact .inl ⟨q37, q64, by omega⟩
    · exact .inr ⟨q37, q64, q92, by omega⟩

theorem tok_two (q37 : (((s[0]'h0).toNat : Int) == 37) = false) (q64 : (((s[0]'h0).toNat : Int) == 64) = false) (q92 : (((s[0]'h0).toNat : Int) == 92) = false) (h6 : c = 60 ∨ c = 62) :
    Calls Tryd.prog 38 #[.string s] w (RTok w (if r.getD 0 0 = c ∧ 0 < r.length then .ok 7 [c, c] 0 2 else .bad 2)) := by
  have hm : isMark c = false := by rcases h6 with h | h <;> rw [h] <;> decide
  have hE := hI.call
  have hlen := hI.len
  by_cases ht : r.getD 0 0 = c ∧ 0 < r.length
  · rw [if_pos ht]
    have htk : (c :: r).take 2 = [c, c] := by
      cases r with
      | nil => simp at ht
      | cons d r =>
        have hdc : d = c := ht.1
        rw [hdc]
        rfl
    refine ok_tok (by rw [hI.two2, htk]) (by omega) (else_two s w hs h0 n hI.nle q39 q34 hE q37 q64 q92 (by omega) ?_)
    rw [hI.two, hI.two, htk]
    rcases h6 with h | h
    · exact .inl (by rw [h]; decide)
    · exact .inr (by rw [h]; decide)
  · rw [if_neg ht]
    rw [hm] at hE
    exact bad_tok (else_bad s w hs h0 n hI.nle q39 q34 hE (hI.not_two (.inr ht)) (.inr (.inl ⟨q37, q64, q92⟩)))

theorem tok_else2 (hh : isHead c = false) (hd : isDig c = false) (h39 : c ≠ 39) (h34 : c ≠ 34) (hn : pre goOn r = n) : Calls Tryd.prog 38 #[.string s] w (RTok w (tokC c r)) := by
  have hno : ∀ k : Nat, k < 256 → c ≠ UInt8.ofNat k → (((s[0]'h0).toNat : Int) == k) = false := fun k hk h => by rw [hI.at0]; exact beq_nat_f hk h
  have hyes : ∀ k : Nat, k < 256 → c = UInt8.ofNat k → (((s[0]'h0).toNat : Int) == k) = true := fun k hk h => by rw [hI.at0]; exact (beq_nat hk).2 h
  unfold tokC
  rw [if_neg (by rw [hh]; decide), if_neg (by rw [hd]; decide), if_neg h39, if_neg h34, hn]
  by_cases h37 : c = 37
  · rw [if_pos h37]
    exact tok_func s w hs h0 c r n hI q39 q34 h37
  rw [if_neg h37]
  have q37 := hno 37 (by decide) h37
  by_cases h64 : c = 64
  · rw [if_pos h64]
    exact tok_name s w hs h0 c r n hI q39 q34 q37 (.inl ⟨hyes 64 (by decide) h64, rfl⟩) (by rw [h64]; decide) (by rw [h64]; decide)
  rw [if_neg h64]
  have q64 := hno 64 (by decide) h64
  by_cases h92 : c = 92
  · rw [if_pos h92]
    exact tok_name s w hs h0 c r n hI q39 q34 q37 (.inr ⟨q64, hyes 92 (by decide) h92, rfl⟩) (by rw [h92]; decide) (by rw [h92]; decide)
  rw [if_neg h92]
  have q92 := hno 92 (by decide) h92
  by_cases h6 : c = 60 ∨ c = 62
  · rw [if_pos h6]
    exact tok_two s w hs h0 c r n hI q39 q34 q37 q64 q92 h6
  rw [if_neg h6]
  have hD := hI.not_two (.inl ⟨fun h => h6 (.inl h), fun h => h6 (.inr h)⟩)
  have hE := hI.call
  by_cases hm : isMark c = true
  · rw [hm] at hE
    rw [if_pos hm]
    exact ok_tok (by rw [hI.one]; rfl) (by omega) (else_one s w hs h0 n hI.nle q39 q34 hE q37 q64 q92 hD)
  · rw [if_neg hm]
    rw [Bool.not_eq_true] at hm
    rw [hm] at hE
    exact bad_tok (else_bad s w hs h0 n hI.nle q39 q34 hE hD (.inr (.inl ⟨q37, q64, q92⟩)))
end

theorem tok_else (s : ByteArray) (w : World) (hs : s.size ≤ 65536) (h0 : 0 < s.size) (hh : isHead (s[0]'h0) = false) (hd : isDig (s[0]'h0) = false) (h39 : (s[0]'h0) ≠ 39) (h34 : (s[0]'h0) ≠ 34) : Calls Tryd.prog 38 #[.string s] w (RTok w (tokR s.data.toList)) := by
  rw [tok_at s h0]
  exact tok_else2 s w hs h0 _ _ _ (elseIn s hs h0 hh hd) (beq_nat_f (by decide) h39) (beq_nat_f (by decide) h34) hh hd h39 h34 rfl

/-- token: the document's. -/
theorem token_any (s : ByteArray) (w : World) (hs : s.size ≤ 65536) (h0 : 0 < s.size) : Calls Tryd.prog 38 #[.string s] w (RTok w (tokR s.data.toList)) := by
  cases hh : isHead (s[0]'h0) with
  | true => exact tok_head s w hs h0 hh
  | false =>
    cases hd : isDig (s[0]'h0) with
    | true => exact tok_dig s w hs h0 hh hd
    | false =>
      by_cases h39 : (s[0]'h0) = 39
      · exact tok_char s w hs h0 hh hd h39
      by_cases h34 : (s[0]'h0) = 34
      · exact tok_text s w hs h0 hh hd h34
      exact tok_else s w hs h0 hh hd h39 h34
end Go.Proofs.YtbhfblogjlpnlaaDoor
