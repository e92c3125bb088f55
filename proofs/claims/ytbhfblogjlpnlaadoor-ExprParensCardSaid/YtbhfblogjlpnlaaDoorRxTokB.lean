/-
  The contract of the reference lexer's token, where a token begins with a mark, or with none. Condition: the string has a byte, and at most 65536.
-/
import Derived.Test.YtbhfblogjlpnlaaDoorRxTok
namespace Go.Proofs.YtbhfblogjlpnlaaDoor
open Go.RowKit

/-- What the calls answer that token makes where a byte is neither a letter, a digit, nor a quote. -/
structure ElseAt (s : ByteArray) (h0 : 0 < s.size) (n : Nat) (bm : Bool) : Prop where
  head : ∀ W, Calls Tryd.prog 37 #[.int .u8 (s[0]'h0).toNat, .string setHead] W fun e w' => e = .returned (.bool false) ∧ W = w'
  dig : ∀ W, Calls Tryd.prog 37 #[.int .u8 (s[0]'h0).toNat, .string setDig] W fun e w' => e = .returned (.bool false) ∧ W = w'
  mark : ∀ W, Calls Tryd.prog 37 #[.int .u8 (s[0]'h0).toNat, .string setMark] W fun e w' => e = .returned (.bool bm) ∧ W = w'
  go : ∀ W, Calls Tryd.prog 57 #[.string (s.extract 1 s.size), .string setGo] W fun e w' => e = .returned (.int .i64 n) ∧ W = w'
/-- What in answers of the byte behind the first one. -/
def LetAt (s : ByteArray) (h1 : 0 < (s.extract 1 s.size).size) (b : Bool) : Prop := ∀ W, Calls Tryd.prog 37 #[.int .u8 ((s.extract 1 s.size)[0]'h1).toNat, .string setLet] W fun e w' => e = .returned (.bool b) ∧ W = w'

section
variable (s : ByteArray) (w : World) (hs : s.size ≤ 65536) (h0 : 0 < s.size) (n : Nat) (hn : n ≤ s.size - 1) (q39 : (((s[0]'h0).toNat : Int) == 39) = false) (q34 : (((s[0]'h0).toNat : Int) == 34) = false)
include hs hn q39 q34

set_option maxRecDepth 100000 in
set_option maxHeartbeats 2000000 in
theorem else_func {bm : Bool} (hE : ElseAt s h0 n bm) (q37 : (((s[0]'h0).toNat : Int) == 37) = true)
    (hb : (((s.extract 1 s.size).extract 0 n).toList == [104, 105]) = true ∨ (((s.extract 1 s.size).extract 0 n).toList == [104, 105]) = false ∧ (((s.extract 1 s.size).extract 0 n).toList == [108, 111]) = true ∨ (((s.extract 1 s.size).extract 0 n).toList == [104, 105]) = false ∧ (((s.extract 1 s.size).extract 0 n).toList == [108, 111]) = false ∧ (((s.extract 1 s.size).extract 0 n).toList == [112, 99, 114, 101, 108]) = true) :
    Calls Tryd.prog 38 #[.string s] w fun e w' => e = .returned (.tuple #[.agg #[.int .i64 4, .int .i64 0, .int .i64 0, .string ((s.extract 1 s.size).extract 0 n), .int .u32 0, .int .i64 0], .int .i64 ((n : Int) + 1), .int .i64 0]) ∧ Below w.heap.size w w' := by
  have h0i : (0 : Int) < s.size := by omega
  have h1i : (1 : Int) ≤ s.size := by omega
  have hni : (n : Int) ≤ (s.size : Int) - 1 := by omega
  have HE := Lib.hid hE
  clear hE
  rcases hb with b1 | ⟨b1, b2⟩ | ⟨b1, b2, b3⟩
  all_goals
    go_enter Tryd.func38, Tryd.ntmps38
    go_wp2_with (first | (go_at_call 37; (with_reducible refine (HE.out.head _).mono ?_); rintro e w' ⟨rfl, rfl⟩) | (go_at_call 37; (with_reducible refine (HE.out.dig _).mono ?_); rintro e w' ⟨rfl, rfl⟩) | (go_at_call 57; (with_reducible refine (HE.out.go _).mono ?_); rintro e w' ⟨rfl, rfl⟩))
    exact bodyPost_ret (v := .tuple #[.agg #[.int .i64 4, .int .i64 0, .int .i64 0, .string ((s.extract 1 s.size).extract 0 n), .int .u32 0, .int .i64 0], .int .i64 ((n : Int) + 1), .int .i64 0]) (by simp [results, Tryd.results38, go_sem]) rfl ⟨rfl, (Below.refl _ _).alloc (Nat.le_refl _) _⟩

set_option maxRecDepth 100000 in
set_option maxHeartbeats 2000000 in
theorem else_name {bm : Bool} {k : Int} (hE : ElseAt s h0 n bm) (q37 : (((s[0]'h0).toNat : Int) == 37) = false) (hk : (((s[0]'h0).toNat : Int) == 64) = true ∧ k = 2 ∨ (((s[0]'h0).toNat : Int) == 64) = false ∧ (((s[0]'h0).toNat : Int) == 92) = true ∧ k = 3) (hn0 : 0 < n) (h1 : 0 < (s.extract 1 s.size).size) (hL : LetAt s h1 true) :
    Calls Tryd.prog 38 #[.string s] w fun e w' => e = .returned (.tuple #[.agg #[.int .i64 k, .int .i64 0, .int .i64 0, .string ((s.extract 1 s.size).extract 0 n), .int .u32 0, .int .i64 0], .int .i64 ((n : Int) + 1), .int .i64 0]) ∧ Below w.heap.size w w' := by
  have h0i : (0 : Int) < s.size := by omega
  have h1i : (1 : Int) ≤ s.size := by omega
  have hni : (n : Int) ≤ (s.size : Int) - 1 := by omega
  have HE := Lib.hid hE
  clear hE
  have hn0i : (0 : Int) < n := by omega
  have h1b : (1 : Int) < s.size := by omega
  unfold LetAt at hL
  have HL := Lib.hid hL
  clear hL
  rcases hk with ⟨q64, rfl⟩ | ⟨q64, q92, rfl⟩
  · go_enter Tryd.func38, Tryd.ntmps38
    go_wp2_with (first | (go_at_call 37; (with_reducible refine (HE.out.head _).mono ?_); rintro e w' ⟨rfl, rfl⟩) | (go_at_call 37; (with_reducible refine (HE.out.dig _).mono ?_); rintro e w' ⟨rfl, rfl⟩) | (go_at_call 57; (with_reducible refine (HE.out.go _).mono ?_); rintro e w' ⟨rfl, rfl⟩) | (go_at_call 37; (with_reducible refine (HL.out _).mono ?_); rintro e w' ⟨rfl, rfl⟩))
    exact bodyPost_ret (v := .tuple #[.agg #[.int .i64 2, .int .i64 0, .int .i64 0, .string ((s.extract 1 s.size).extract 0 n), .int .u32 0, .int .i64 0], .int .i64 ((n : Int) + 1), .int .i64 0]) (by simp [results, Tryd.results38, go_sem]) rfl ⟨rfl, (Below.refl _ _).alloc (Nat.le_refl _) _⟩
  · go_enter Tryd.func38, Tryd.ntmps38
    go_wp2_with (first | (go_at_call 37; (with_reducible refine (HE.out.head _).mono ?_); rintro e w' ⟨rfl, rfl⟩) | (go_at_call 37; (with_reducible refine (HE.out.dig _).mono ?_); rintro e w' ⟨rfl, rfl⟩) | (go_at_call 57; (with_reducible refine (HE.out.go _).mono ?_); rintro e w' ⟨rfl, rfl⟩) | (go_at_call 37; (with_reducible refine (HL.out _).mono ?_); rintro e w' ⟨rfl, rfl⟩))
    exact bodyPost_ret (v := .tuple #[.agg #[.int .i64 3, .int .i64 0, .int .i64 0, .string ((s.extract 1 s.size).extract 0 n), .int .u32 0, .int .i64 0], .int .i64 ((n : Int) + 1), .int .i64 0]) (by simp [results, Tryd.results38, go_sem]) rfl ⟨rfl, (Below.refl _ _).alloc (Nat.le_refl _) _⟩

set_option maxRecDepth 100000 in
set_option maxHeartbeats 2000000 in
theorem else_two {bm : Bool} (hE : ElseAt s h0 n bm) (q37 : (((s[0]'h0).toNat : Int) == 37) = false) (q64 : (((s[0]'h0).toNat : Int) == 64) = false) (q92 : (((s[0]'h0).toNat : Int) == 92) = false) (h1 : (1 : Int) < s.size) (hp : ((s.extract 0 2).toList == [60, 60]) = true ∨ ((s.extract 0 2).toList == [60, 60]) = false ∧ ((s.extract 0 2).toList == [62, 62]) = true) :
    Calls Tryd.prog 38 #[.string s] w fun e w' => e = .returned (.tuple #[.agg #[.int .i64 7, .int .i64 0, .int .i64 0, .string (s.extract 0 2), .int .u32 0, .int .i64 0], .int .i64 2, .int .i64 0]) ∧ Below w.heap.size w w' := by
  have h0i : (0 : Int) < s.size := by omega
  have h1i : (1 : Int) ≤ s.size := by omega
  have hni : (n : Int) ≤ (s.size : Int) - 1 := by omega
  have HE := Lib.hid hE
  clear hE
  rcases hp with p1 | ⟨p1, p2⟩
  all_goals
    go_enter Tryd.func38, Tryd.ntmps38
    go_wp2_with (first | (go_at_call 37; (with_reducible refine (HE.out.head _).mono ?_); rintro e w' ⟨rfl, rfl⟩) | (go_at_call 37; (with_reducible refine (HE.out.dig _).mono ?_); rintro e w' ⟨rfl, rfl⟩) | (go_at_call 57; (with_reducible refine (HE.out.go _).mono ?_); rintro e w' ⟨rfl, rfl⟩))
    exact bodyPost_ret (v := .tuple #[.agg #[.int .i64 7, .int .i64 0, .int .i64 0, .string (s.extract 0 2), .int .u32 0, .int .i64 0], .int .i64 2, .int .i64 0]) (by simp [results, Tryd.results38, go_sem]) rfl ⟨rfl, (Below.refl _ _).alloc (Nat.le_refl _) _⟩

set_option maxRecDepth 100000 in
set_option maxHeartbeats 2000000 in
theorem else_one (hE : ElseAt s h0 n true) (q37 : (((s[0]'h0).toNat : Int) == 37) = false) (q64 : (((s[0]'h0).toNat : Int) == 64) = false) (q92 : (((s[0]'h0).toNat : Int) == 92) = false) (hD : (s.size : Int) ≤ 1 ∨ (1 : Int) < s.size ∧ ((s.extract 0 2).toList == [60, 60]) = false ∧ ((s.extract 0 2).toList == [62, 62]) = false) :
    Calls Tryd.prog 38 #[.string s] w fun e w' => e = .returned (.tuple #[.agg #[.int .i64 7, .int .i64 0, .int .i64 0, .string (s.extract 0 1), .int .u32 0, .int .i64 0], .int .i64 1, .int .i64 0]) ∧ Below w.heap.size w w' := by
  have h0i : (0 : Int) < s.size := by omega
  have h1i : (1 : Int) ≤ s.size := by omega
  have hni : (n : Int) ≤ (s.size : Int) - 1 := by omega
  have HE := Lib.hid hE
  clear hE
  rcases hD with h1 | ⟨h1, p1, p2⟩
  all_goals
    go_enter Tryd.func38, Tryd.ntmps38
    go_wp2_with (first | (go_at_call 37; (with_reducible refine (HE.out.head _).mono ?_); rintro e w' ⟨rfl, rfl⟩) | (go_at_call 37; (with_reducible refine (HE.out.dig _).mono ?_); rintro e w' ⟨rfl, rfl⟩) | (go_at_call 57; (with_reducible refine (HE.out.go _).mono ?_); rintro e w' ⟨rfl, rfl⟩) | (go_at_call 37; (with_reducible refine (HE.out.mark _).mono ?_); rintro e w' ⟨rfl, rfl⟩))
    exact bodyPost_ret (v := .tuple #[.agg #[.int .i64 7, .int .i64 0, .int .i64 0, .string (s.extract 0 1), .int .u32 0, .int .i64 0], .int .i64 1, .int .i64 0]) (by simp [results, Tryd.results38, go_sem]) rfl ⟨rfl, (Below.refl _ _).alloc (Nat.le_refl _) _⟩

set_option maxRecDepth 100000 in
set_option maxHeartbeats 2000000 in
theorem else_bad (hE : ElseAt s h0 n false) (hD : (s.size : Int) ≤ 1 ∨ (1 : Int) < s.size ∧ ((s.extract 0 2).toList == [60, 60]) = false ∧ ((s.extract 0 2).toList == [62, 62]) = false)
    (hK : ((((s[0]'h0).toNat : Int) == 37) = true ∧ (((s[0]'h0).toNat : Int) == 64) = false ∧ (((s[0]'h0).toNat : Int) == 92) = false ∧ (((s.extract 1 s.size).extract 0 n).toList == [104, 105]) = false ∧ (((s.extract 1 s.size).extract 0 n).toList == [108, 111]) = false ∧ (((s.extract 1 s.size).extract 0 n).toList == [112, 99, 114, 101, 108]) = false) ∨ ((((s[0]'h0).toNat : Int) == 37) = false ∧ (((s[0]'h0).toNat : Int) == 64) = false ∧ (((s[0]'h0).toNat : Int) == 92) = false) ∨ ((((s[0]'h0).toNat : Int) == 37) = false ∧ (((s[0]'h0).toNat : Int) == 64) = true ∧ (n : Int) ≤ 0) ∨ ((((s[0]'h0).toNat : Int) == 37) = false ∧ (((s[0]'h0).toNat : Int) == 64) = false ∧ (((s[0]'h0).toNat : Int) == 92) = true ∧ (n : Int) ≤ 0)) :
    Calls Tryd.prog 38 #[.string s] w fun e w' => e = .returned (.tuple #[.agg #[.int .i64 0, .int .i64 0, .int .i64 0, .string ⟨#[]⟩, .int .u32 0, .int .i64 0], .int .i64 0, .int .i64 2]) ∧ Below w.heap.size w w' := by
  have h0i : (0 : Int) < s.size := by omega
  have h1i : (1 : Int) ≤ s.size := by omega
  have hni : (n : Int) ≤ (s.size : Int) - 1 := by omega
  have HE := Lib.hid hE
  clear hE
  rcases hD with h1 | ⟨h1, p1, p2⟩
  all_goals rcases hK with ⟨q37, q64, q92, b1, b2, b3⟩ | ⟨q37, q64, q92⟩ | ⟨q37, q64, hn0⟩ | ⟨q37, q64, q92, hn0⟩
  all_goals
    go_enter Tryd.func38, Tryd.ntmps38
    go_wp2_with (first | (go_at_call 37; (with_reducible refine (HE.out.head _).mono ?_); rintro e w' ⟨rfl, rfl⟩) | (go_at_call 37; (with_reducible refine (HE.out.dig _).mono ?_); rintro e w' ⟨rfl, rfl⟩) | (go_at_call 57; (with_reducible refine (HE.out.go _).mono ?_); rintro e w' ⟨rfl, rfl⟩) | (go_at_call 37; (with_reducible refine (HE.out.mark _).mono ?_); rintro e w' ⟨rfl, rfl⟩))
    exact bodyPost_ret (v := .tuple #[.agg #[.int .i64 0, .int .i64 0, .int .i64 0, .string ⟨#[]⟩, .int .u32 0, .int .i64 0], .int .i64 0, .int .i64 2]) (by simp [results, Tryd.results38, go_sem]) rfl ⟨rfl, (Below.refl _ _).alloc (Nat.le_refl _) _⟩

set_option maxRecDepth 100000 in
set_option maxHeartbeats 2000000 in
theorem else_bad2 (hE : ElseAt s h0 n false) (hD : (s.size : Int) ≤ 1 ∨ (1 : Int) < s.size ∧ ((s.extract 0 2).toList == [60, 60]) = false ∧ ((s.extract 0 2).toList == [62, 62]) = false) (q37 : (((s[0]'h0).toNat : Int) == 37) = false) (hk : (((s[0]'h0).toNat : Int) == 64) = true ∨ (((s[0]'h0).toNat : Int) == 64) = false ∧ (((s[0]'h0).toNat : Int) == 92) = true) (hn0 : 0 < n) (h1 : 0 < (s.extract 1 s.size).size) (hL : LetAt s h1 false) :
    Calls Tryd.prog 38 #[.string s] w fun e w' => e = .returned (.tuple #[.agg #[.int .i64 0, .int .i64 0, .int .i64 0, .string ⟨#[]⟩, .int .u32 0, .int .i64 0], .int .i64 0, .int .i64 2]) ∧ Below w.heap.size w w' := by
  have h0i : (0 : Int) < s.size := by omega
  have h1i : (1 : Int) ≤ s.size := by omega
  have hni : (n : Int) ≤ (s.size : Int) - 1 := by omega
  have HE := Lib.hid hE
  clear hE
  have hn0i : (0 : Int) < n := by omega
  have h1b : (1 : Int) < s.size := by omega
  unfold LetAt at hL
  have HL := Lib.hid hL
  clear hL
  rcases hD with h1 | ⟨h1, p1, p2⟩
  · omega
  rcases hk with q64 | ⟨q64, q92⟩
  all_goals
    go_enter Tryd.func38, Tryd.ntmps38
    go_wp2_with (first | (go_at_call 37; (with_reducible refine (HE.out.head _).mono ?_); rintro e w' ⟨rfl, rfl⟩) | (go_at_call 37; (with_reducible refine (HE.out.dig _).mono ?_); rintro e w' ⟨rfl, rfl⟩) | (go_at_call 57; (with_reducible refine (HE.out.go _).mono ?_); rintro e w' ⟨rfl, rfl⟩) | (go_at_call 37; (with_reducible refine (HL.out _).mono ?_); rintro e w' ⟨rfl, rfl⟩) | (go_at_call 37; (with_reducible refine (HE.out.mark _).mono ?_); rintro e w' ⟨rfl, rfl⟩))
    exact bodyPost_ret (v := .tuple #[.agg #[.int .i64 0, .int .i64 0, .int .i64 0, .string ⟨#[]⟩, .int .u32 0, .int .i64 0], .int .i64 0, .int .i64 2]) (by simp [results, Tryd.results38, go_sem]) rfl ⟨rfl, (Below.refl _ _).alloc (Nat.le_refl _) _⟩
end
end Go.Proofs.YtbhfblogjlpnlaaDoor
