/-
  The contract of the reference lexer's token where a string begins with a letter or a dot: a Name as long as letters, digits, dots and dollars go. Condition: the string's length is within the model's bound.
-/
import Derived.Test.YtccomiigdpfbpaaDoorLex
import Derived.WalkSpells
namespace Go.Proofs.YtccomiigdpfbpaaDoor
open Go.RowKit

/-- Letters, and the dot. -/
def setHead : ByteArray := ⟨#[97, 98, 99, 100, 101, 102, 103, 104, 105, 106, 107, 108, 109, 110, 111, 112, 113, 114, 115, 116, 117, 118, 119, 120, 121, 122, 65, 66, 67, 68, 69, 70, 71, 72, 73, 74, 75, 76, 77, 78, 79, 80, 81, 82, 83, 84, 85, 86, 87, 88, 89, 90, 95, 46]⟩
/-- Letters, digits, the dot and the dollar. -/
def setName : ByteArray := ⟨([97, 98, 99, 100, 101, 102, 103, 104, 105, 106, 107, 108, 109, 110, 111, 112, 113, 114, 115, 116, 117, 118, 119, 120, 121, 122, 65, 66, 67, 68, 69, 70].append [71, 72, 73, 74, 75, 76, 77, 78, 79, 80, 81, 82, 83, 84, 85, 86, 87, 88, 89, 90, 95, 48, 49, 50, 51, 52, 53, 54, 55, 56, 57, 46, 36]).toArray⟩

/-- The answer of token: a token of that kind, text and number, its length, and a code. -/
def TokOut (w0 : World) (k : Int) (text : ByteArray) (num n code : Int) (e : Ending) (w' : World) : Prop :=
  e = .returned (.tuple #[.agg #[.int .i64 k, .int .i64 0, .int .i64 0, .string text, .int .u32 num, .int .i64 0], .int .i64 n, .int .i64 code]) ∧ Below w0.heap.size w0 w'

set_option maxRecDepth 100000 in
set_option maxHeartbeats 1000000 in
theorem token_name (s : ByteArray) (w : World) (hs : s.size ≤ maxLen) (h0 : 0 < s.size) (hin : inSet s[0] setHead = true) :
    Calls Tryd.prog 36 #[.string s] w (TokOut w 1 (s.extract 0 (run s.data.toList setName)) 0 (run s.data.toList setName) 0) := by
  have hi := fun W => in_any s[0] setHead W (by decide)
  rw [hin] at hi
  clear hin
  have hr := run_le s.data.toList setName
  have hw := fun W => while_any s setName W hs (by decide)
  have hl : s.data.toList.length = s.size := by simp
  rw [hl] at hr
  clear hl
  generalize run s.data.toList setName = n at *
  unfold maxLen at hs
  go_enter Tryd.func36, Tryd.ntmps36
  go_wp2_with (first | (go_at_call 35; refine (hi _).mono ?_; rintro e w' ⟨rfl, rfl⟩) | (go_at_call 39; refine (hw _).mono ?_; rintro e w' ⟨rfl, rfl⟩))
  exact bodyPost_ret (v := .tuple #[.agg #[.int .i64 1, .int .i64 0, .int .i64 0, .string (s.extract 0 n), .int .u32 0, .int .i64 0], .int .i64 n, .int .i64 0]) (by simp [results, Tryd.results36, go_sem]) rfl ⟨rfl, (Below.refl _ _).alloc (Nat.le_refl _) _⟩
end Go.Proofs.YtccomiigdpfbpaaDoor
