/-
  The law's own check that the program is awake: it answers true. Condition: the handle of the type error.
-/
import Derived.Test.YtccomiigdpfbpaaDoorSrc
import Derived.Test.YtccomiigdpfbpaaDoorErr2
import Derived.Test.YtccomiigdpfbpaaDoorEnd2
import Derived.Lib.SlBytesConst
import Derived.Laws.StructEq
namespace Go.Proofs.YtccomiigdpfbpaaDoor
open Go.RowKit

theorem end_any (F : Lns) (B O n cap : Nat) (i : Int) (w : World) (hg : Handle w) (hn : n ≤ 4000) (hF : F.In w B O n) :
    Calls Tryd.prog 9 #[.slice (some ⟨B, O, none⟩) n cap, .int .i64 i] w (EndOut w (endSpec F n i)) := by
  by_cases h : i < 0 ∨ (n : Int) ≤ i
  · exact end_out F _ n cap i w hg h
  · have hs : endSpec F n i = if F.kind i.toNat = 1 ∨ F.kind i.toNat = 3 ∨ F.kind i.toNat = 5 then endRun F n i.toNat (i.toNat + 1) [((F.kind i.toNat : Int), -1)] else .bad (F.line i.toNat) (F.col i.toNat) := by
      unfold endSpec; rw [if_neg h]
    obtain ⟨k, rfl⟩ : ∃ k : Nat, i = k := ⟨i.toNat, by omega⟩
    rw [Int.toNat_natCast] at hs
    rw [hs]
    split
    · rename_i hk
      exact end_run F B O n cap k w hg hn hF (by omega) hk
    · rename_i hk
      exact end_not F B O n cap k w hg hF (by omega) hk

/-- A line that is one name. -/
theorem lex_name (s : ByteArray) (hs : s.size ≤ maxLen) (h0 : 0 < s.size) (hb : inSet s[0] setBlank = false) (h35 : ¬ (s[0].toNat : Int) = 35) (hin : inSet s[0] setHead = true) (hrun : run s.data.toList setName = s.size) : LexFrom s 0 [⟨0, 1, s, 0⟩] := by
  have he : s.extract 0 s.size = s := by simp
  refine LexFrom.tok 0 s.size 1 s 0 [] h0 hb h35 ?_ h0 (by rw [Nat.zero_add]; exact LexFrom.done)
  rw [he]
  refine ⟨0, fun w => ?_⟩
  have := token_name s w hs h0 hin
  rw [hrun, he] at this
  exact this

/-- The source of the check: .if, x, .else, y, .endif, .endm, a line each. -/
def awSrc : ByteArray := ⟨#[46, 105, 102, 10, 120, 10, 46, 101, 108, 115, 101, 10, 121, 10, 46, 101, 110, 100, 105, 102, 10, 46, 101, 110, 100, 109]⟩
def awName : Nat → ByteArray
  | 0 => ⟨#[46, 105, 102]⟩
  | 1 => ⟨#[120]⟩
  | 2 => ⟨#[46, 101, 108, 115, 101]⟩
  | 3 => ⟨#[121]⟩
  | 4 => ⟨#[46, 101, 110, 100, 105, 102]⟩
  | _ => ⟨#[46, 101, 110, 100, 109]⟩
def awAll : List (List Piece) := [[⟨0, 1, awName 0, 0⟩], [⟨0, 1, awName 1, 0⟩], [⟨0, 1, awName 2, 0⟩], [⟨0, 1, awName 3, 0⟩], [⟨0, 1, awName 4, 0⟩], [⟨0, 1, awName 5, 0⟩]]

theorem awNoLF (a b : Nat) (h : ∀ j : Fin 26, a ≤ j.val → j.val < b → ¬ ((awSrc.data.toList[j.val]'(by exact j.isLt)).toNat : Int) = 10) : NoLF awSrc a b := fun j hj h1 h2 => h ⟨j, hj⟩ h1 h2

theorem awLines : SrcFrom awSrc 0 awAll := by
  have e0 : awSrc.extract 0 3 = awName 0 := by rfl
  have e1 : awSrc.extract 4 5 = awName 1 := by rfl
  have e2 : awSrc.extract 6 11 = awName 2 := by rfl
  have e3 : awSrc.extract 12 13 = awName 3 := by rfl
  have e4 : awSrc.extract 14 20 = awName 4 := by rfl
  have e5 : awSrc.extract 21 26 = awName 5 := by rfl
  refine SrcFrom.more 0 3 _ _ (by decide) (by decide) (by decide) (awNoLF _ _ (by decide)) (by rw [e0]; exact lex_name _ (by decide) (by decide) (by decide) (by decide) (by decide) (by decide)) ?_
  refine SrcFrom.more 4 5 _ _ (by decide) (by decide) (by decide) (awNoLF _ _ (by decide)) (by rw [e1]; exact lex_name _ (by decide) (by decide) (by decide) (by decide) (by decide) (by decide)) ?_
  refine SrcFrom.more 6 11 _ _ (by decide) (by decide) (by decide) (awNoLF _ _ (by decide)) (by rw [e2]; exact lex_name _ (by decide) (by decide) (by decide) (by decide) (by decide) (by decide)) ?_
  refine SrcFrom.more 12 13 _ _ (by decide) (by decide) (by decide) (awNoLF _ _ (by decide)) (by rw [e3]; exact lex_name _ (by decide) (by decide) (by decide) (by decide) (by decide) (by decide)) ?_
  refine SrcFrom.more 14 20 _ _ (by decide) (by decide) (by decide) (awNoLF _ _ (by decide)) (by rw [e4]; exact lex_name _ (by decide) (by decide) (by decide) (by decide) (by decide) (by decide)) ?_
  exact SrcFrom.last 21 _ (by decide) (awNoLF _ _ (by decide)) (by rw [show awSrc.size = 26 from rfl, e5]; exact lex_name _ (by decide) (by decide) (by decide) (by decide) (by decide) (by decide))
end Go.Proofs.YtccomiigdpfbpaaDoor
