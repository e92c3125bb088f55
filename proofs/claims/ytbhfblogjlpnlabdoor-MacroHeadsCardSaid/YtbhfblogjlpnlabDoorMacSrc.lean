/-
  The lines that the macro layer's own check reads, as the document reads them; the macro that their first line is the head of. No program's contract.
-/
import Derived.Test.YtbhfblogjlpnlabDoorMacShape
namespace Go.Proofs.YtbhfblogjlpnlabDoor
open Go.RowKit

def srcM : ByteArray := ⟨#[46, 109, 97, 99, 114, 111, 32, 109, 32, 97, 44, 32, 98, 61, 49, 43, 50, 10, 40, 120, 44, 121, 41, 44, 10, 46, 109, 97, 99, 114, 111, 32, 46, 109]⟩
def lineM0 : List Piece := [⟨0, 1, [46, 109, 97, 99, 114, 111], 0⟩, ⟨7, 1, [109], 0⟩, ⟨9, 1, [97], 0⟩, ⟨10, 7, [44], 0⟩, ⟨12, 1, [98], 0⟩, ⟨13, 7, [61], 0⟩, ⟨14, 5, [], 1⟩, ⟨15, 7, [43], 0⟩, ⟨16, 5, [], 2⟩]
def lineM1 : List Piece := [⟨0, 7, [40], 0⟩, ⟨1, 1, [120], 0⟩, ⟨2, 7, [44], 0⟩, ⟨3, 1, [121], 0⟩, ⟨4, 7, [41], 0⟩, ⟨5, 7, [44], 0⟩]
def lineM2 : List Piece := [⟨0, 1, [46, 109, 97, 99, 114, 111], 0⟩, ⟨7, 1, [46, 109], 0⟩]
theorem readM : LinesR 0 (cut srcM.data.toList) [lineM0, lineM1, lineM2] none := by
  refine .good 0 [46, 109, 97, 99, 114, 111, 32, 109, 32, 97, 44, 32, 98, 61, 49, 43, 50] _ lineM0 _ none ?_ ?_
  · refine .tok 0 6 1 [46, 109, 97, 99, 114, 111] 0 _ none (by decide) (by decide) (by decide) rfl ?_
    refine .blank 6 _ none (by decide) (by decide) ?_
    refine .tok 7 1 1 [109] 0 _ none (by decide) (by decide) (by decide) rfl ?_
    refine .blank 8 _ none (by decide) (by decide) ?_
    refine .tok 9 1 1 [97] 0 _ none (by decide) (by decide) (by decide) rfl ?_
    refine .tok 10 1 7 [44] 0 _ none (by decide) (by decide) (by decide) rfl ?_
    refine .blank 11 _ none (by decide) (by decide) ?_
    refine .tok 12 1 1 [98] 0 _ none (by decide) (by decide) (by decide) rfl ?_
    refine .tok 13 1 7 [61] 0 _ none (by decide) (by decide) (by decide) rfl ?_
    refine .tok 14 1 5 [] 1 _ none (by decide) (by decide) (by decide) rfl ?_
    refine .tok 15 1 7 [43] 0 _ none (by decide) (by decide) (by decide) rfl ?_
    refine .tok 16 1 5 [] 2 _ none (by decide) (by decide) (by decide) rfl ?_
    exact .done
  · refine .good 1 [40, 120, 44, 121, 41, 44] _ lineM1 _ none ?_ ?_
    · refine .tok 0 1 7 [40] 0 _ none (by decide) (by decide) (by decide) rfl ?_
      refine .tok 1 1 1 [120] 0 _ none (by decide) (by decide) (by decide) rfl ?_
      refine .tok 2 1 7 [44] 0 _ none (by decide) (by decide) (by decide) rfl ?_
      refine .tok 3 1 1 [121] 0 _ none (by decide) (by decide) (by decide) rfl ?_
      refine .tok 4 1 7 [41] 0 _ none (by decide) (by decide) (by decide) rfl ?_
      refine .tok 5 1 7 [44] 0 _ none (by decide) (by decide) (by decide) rfl ?_
      exact .done
    · refine .good 2 [46, 109, 97, 99, 114, 111, 32, 46, 109] _ lineM2 _ none ?_ (.nil 3)
      refine .tok 0 6 1 [46, 109, 97, 99, 114, 111] 0 _ none (by decide) (by decide) (by decide) rfl ?_
      refine .blank 6 _ none (by decide) (by decide) ?_
      refine .tok 7 2 1 [46, 109] 0 _ none (by decide) (by decide) (by decide) rfl ?_
      exact .done

/-- A piece of a line, as a token. -/
def Piece.tk (ln : Int) (p : Piece) : Tk6 := ⟨p.kind, ln, p.at_ + 1, ba p.text, p.num, 0⟩
theorem cells_tk (ps : List Piece) (ln : Int) : allCells ps ln = cellsOf (ps.map (Piece.tk ln)) := by
  induction ps with
  | nil => rfl
  | cons p ps ih =>
    have h1 : allCells (p :: ps) ln = p.cells ln ++ allCells ps ln := rfl
    have h2 : cellsOf ((p :: ps).map (Piece.tk ln)) = (p.tk ln).cells ++ cellsOf (ps.map (Piece.tk ln)) := rfl
    rw [h1, h2, ih]
    rfl
theorem toks_line {w : World} {base i : Nat} {us : List Value} {all : List (List Piece)} {ps : List Piece} {u : Value} (hl : LinesAt w base us all) (hi : all[i]? = some ps) (hu : us[i]? = some u) : Toks w u (ps.map (Piece.tk ((i : Int) + 1))) := by
  obtain ⟨u', hu', ho⟩ := hl.2 i ps hi
  rw [hu] at hu'
  injection hu' with hu'
  subst hu'
  rw [cells_tk] at ho
  exact toks_of_own ho (by rw [List.length_map])

theorem isM_eq (t : Tk6) (s : ByteArray) : t.isM s = (t.kind == 7 && t.text.data.toList == s.data.toList) := by
  unfold Tk6.isM
  rw [ByteArray.toList_eq, ByteArray.toList_eq]

def tkM0 : List Tk6 := lineM0.map (Piece.tk 1)
def tkM1 : List Tk6 := lineM1.map (Piece.tk 2)
def tkM2 : List Tk6 := lineM2.map (Piece.tk 3)
def parsM : List HPar := [⟨ba [97], false, []⟩, ⟨ba [98], true, (tkM0.drop 6).take 3⟩]
def mk3' (t : Tk6) : Nat := if (t.kind == 7 && t.text.data.toList == [40]) then 1 else if (t.kind == 7 && t.text.data.toList == [41]) then 2 else if (t.kind == 7 && t.text.data.toList == [44]) then 3 else 0
theorem mk3_eq : Tk6.mk3 = mk3' := by
  funext t
  unfold Tk6.mk3 mk3'
  rw [isM_eq, isM_eq, isM_eq]
theorem headM0 : HRun tkM0 (some .name) headStart (.inl ⟨9, ba [109], parsM⟩) := by
  refine .go .name _ ⟨2, ba [109], []⟩ (some .param) _ rfl ?_
  refine .go .param _ ⟨3, ba [109], [⟨ba [97], false, []⟩]⟩ (some .behind) _ rfl ?_
  refine .go .behind _ ⟨4, ba [109], [⟨ba [97], false, []⟩]⟩ (some .param) _ ?_ ?_
  · rw [show ∀ s, hstep tkM0 .behind s = behindStep tkM0 s from fun _ => rfl]
    unfold behindStep
    show (if Tk6.isM (Piece.tk 1 ⟨10, 7, [44], 0⟩) ⟨#[44]⟩ = true then _ else _) = _
    rw [if_pos (by rw [isM_eq]; rfl)]
  refine .go .param _ ⟨5, ba [109], [⟨ba [97], false, []⟩, ⟨ba [98], false, []⟩]⟩ (some .behind) _ ?_ ?_
  · rw [show ∀ s, hstep tkM0 .param s = paramStep tkM0 s from fun _ => rfl]
    unfold paramStep
    show (if (1 : Int) = 1 then (if hasPar [⟨ba [97], false, []⟩] (ba [98]) = true then _ else _) else _) = _
    rw [if_pos rfl, if_neg (by unfold hasPar HPar.named; simp only [ByteArray.toList_eq]; decide)]
    rfl
  refine .go .behind _ ⟨6, ba [109], [⟨ba [97], false, []⟩, ⟨ba [98], false, []⟩]⟩ (some .value) _ ?_ ?_
  · rw [show ∀ s, hstep tkM0 .behind s = behindStep tkM0 s from fun _ => rfl]
    unfold behindStep
    show (if Tk6.isM (Piece.tk 1 ⟨13, 7, [61], 0⟩) ⟨#[44]⟩ = true then _ else if Tk6.isM (Piece.tk 1 ⟨13, 7, [61], 0⟩) ⟨#[61]⟩ = true then _ else _) = _
    rw [if_neg (by rw [isM_eq]; decide), if_pos (by rw [isM_eq]; rfl)]
  refine .go .value _ ⟨9, ba [109], parsM⟩ none _ ?_ (.done _)
  · rw [show ∀ s, hstep tkM0 .value s = valueStep tkM0 s from fun _ => rfl]
    unfold valueStep
    rw [mk3_eq]
    rfl
theorem headM2 : HRun tkM2 (some .name) headStart (.inr (1, 8)) := .bad _ _ _ rfl
theorem partsM1 : PartsR Tk6.mk3 tkM1 [tkM1.take 5, []] := by
  rw [mk3_eq]
  exact .more tkM1 [[]] (by decide) (.last [] rfl)
theorem placeM2 : placeAt tkM2 1 = (3, 8) := rfl
end Go.Proofs.YtbhfblogjlpnlabDoor
