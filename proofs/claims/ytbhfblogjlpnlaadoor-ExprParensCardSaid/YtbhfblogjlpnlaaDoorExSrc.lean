/-
  The lines of a source as tokens; the source that the expressions' own check reads, as the document reads it, and its expression. No program's contract.
-/
import Derived.Test.YtbhfblogjlpnlaaDoorExSpec
import Derived.Test.YtbhfblogjlpnlaaDoorRxLines
namespace Go.Proofs.YtbhfblogjlpnlaaDoor
open Go.RowKit

/-- A piece of a line, as a token. -/
def Piece.tk (ln : Int) (p : Piece) : Tk6 := ⟨p.kind, ln, p.at_ + 1, ba p.text, p.num, 0⟩
theorem cells_tk (ps : List Piece) (ln : Int) : allCells ps ln = cellsOf (ps.map (Piece.tk ln)) := by
  induction ps with
  | nil => rfl
  | cons p ps ih =>
    have h1 : allCells (p :: ps) ln = p.cells ln ++ allCells ps ln := rfl
    have h2 : cellsOf ((p :: ps).map (Piece.tk ln)) = (p.tk ln).cells ++ cellsOf (ps.map (Piece.tk ln)) := rfl
    rw [h1, h2, ih]
    rfl
theorem toks_line {w : World} {base i : Nat} {us : List Value} {all : List (List Piece)} {ps : List Piece} {u : Value} (hl : LinesAt w base us all) (hi : all[i]? = some ps) (hu : us[i]? = some u) : Toks w u (ps.map (Piece.tk ((i : Int) + 1))) := by
  obtain ⟨u', hu', ho⟩ := hl.2 i ps hi
  rw [hu] at hu'
  injection hu' with hu'
  subst hu'
  rw [cells_tk] at ho
  exact toks_of_own ho (by rw [List.length_map])
theorem tk_spare {ps : List Piece} {ln : Int} : ∀ t ∈ ps.map (Piece.tk ln), t.spare = 0 := by
  intro t ht
  obtain ⟨p, _, rfl⟩ := List.mem_map.1 ht
  rfl

theorem isM_eq (t : Tk6) (s : ByteArray) : t.isM s = (t.kind == 7 && t.text.data.toList == s.data.toList) := by
  unfold Tk6.isM
  rw [ByteArray.toList_eq, ByteArray.toList_eq]
theorem isT_eq (s : ByteArray) (l : List UInt8) : isT s l = (s.data.toList == l) := by
  unfold isT
  rw [ByteArray.toList_eq]

theorem tok_txt {l : Bs} {k : Int} {t : Bs} {v : Int} {n : Nat} (h : tokR l = .ok k t v n) : t.length ≤ l.length := by
  cases l with
  | nil => simp [tokR] at h
  | cons c r =>
    change tokC c r = _ at h
    unfold tokC at h
    repeat' split at h
    all_goals cases h
    all_goals try simp only [List.length_take, List.length_nil, List.length_cons]
    all_goals try omega
    · rename_i hb
      have := body_len 0 r hb
      simp at this ⊢
      omega
theorem from_text {l : Bs} {i : Nat} {ps : List Piece} {e : Option (Nat × Int)} (h : LexFrom l i ps e) : ∀ p ∈ ps, p.text.length ≤ l.length := by
  induction h with
  | done => intro p hp; cases hp
  | remark i h hr => intro p hp; cases hp
  | blank i ps e h hb r ih => exact ih
  | bad i code h hb hr ht => intro p hp; cases hp
  | tok i n k text num ps e h hb hr ht r ih =>
    intro p hp
    rcases List.mem_cons.1 hp with rfl | hp
    · have := tok_txt ht
      rw [List.length_drop] at this
      show text.length ≤ _
      omega
    · exact ih p hp
theorem lines_text {n : Nat} {ls : List Bs} {pss : List (List Piece)} {e : Option (Nat × Nat × Int)} (h : LinesR n ls pss e) : ∀ (m : Nat), (∀ l ∈ ls, l.length ≤ m) → ∀ ps ∈ pss, ps.length ≤ m ∧ ∀ p ∈ ps, p.text.length ≤ m := by
  induction h with
  | nil n => intro m _ ps hp; cases hp
  | good n l ls ps pss e h r ih =>
    intro m hm qs hq
    rcases List.mem_cons.1 hq with rfl | hq
    · have h1 := hm l (List.mem_cons_self ..)
      have h2 := h.le
      exact ⟨by omega, fun p hp => Nat.le_trans (from_text h p hp) h1⟩
    · exact ih m (fun l hl => hm l (List.mem_cons_of_mem _ hl)) qs hq
  | bad n l ls ps i c h => intro m _ ps hp; cases hp
theorem cut_mem' : ∀ (l p : Bs), p ∈ cut l → p.length ≤ l.length
  | [], p, h => by
    simp [cut] at h
    subst h
    simp
  | c :: r, p, h => by
    rw [cut] at h
    split at h
    · rcases List.mem_cons.1 h with rfl | h
      · simp
      · have := cut_mem' r p h
        simp
        omega
    · split at h
      · obtain rfl := List.mem_singleton.1 h
        simp
      · rename_i l ls hl
        rcases List.mem_cons.1 h with rfl | h
        · have := cut_mem' r l (by rw [hl]; exact List.mem_cons_self ..)
          simp
          omega
        · have := cut_mem' r p (by rw [hl]; exact List.mem_cons_of_mem _ h)
          simp
          omega
/-- What a source's tokens hold. -/
structure Tame (ts : List Tk6) : Prop where
  few : ts.length ≤ 100000
  spare : ∀ t ∈ ts, t.spare = 0
  text : ∀ t ∈ ts, t.text.size ≤ 100000
theorem tame_line {s : Bs} {all : List (List Piece)} {e : Option (Nat × Nat × Int)} (h : LinesR 0 (cut s) all e) (hs : s.length ≤ 65536) {ps : List Piece} (hp : ps ∈ all) (ln : Int) : Tame (ps.map (Piece.tk ln)) := by
  have h1 := lines_text h 65536 (fun l hl => Nat.le_trans (cut_mem' s l hl) hs) ps hp
  refine ⟨by rw [List.length_map]; omega, tk_spare, fun t ht => ?_⟩
  obtain ⟨p, hp2, rfl⟩ := List.mem_map.1 ht
  have := h1.2 p hp2
  show (ba p.text).size ≤ _
  rw [ba_size]
  omega

def srcE : ByteArray := ⟨#[49, 43, 50, 42, 45, 120, 44]⟩
def lineE : List Piece := [⟨0, 5, [], 1⟩, ⟨1, 7, [43], 0⟩, ⟨2, 5, [], 2⟩, ⟨3, 7, [42], 0⟩, ⟨4, 7, [45], 0⟩, ⟨5, 1, [120], 0⟩, ⟨6, 7, [44], 0⟩]
theorem readE : LinesR 0 (cut srcE.data.toList) [lineE] none := by
  refine .good 0 [49, 43, 50, 42, 45, 120, 44] _ lineE _ none ?_ (.nil 1)
  refine .tok 0 1 5 [] 1 _ none (by decide) (by decide) (by decide) rfl ?_
  refine .tok 1 1 7 [43] 0 _ none (by decide) (by decide) (by decide) rfl ?_
  refine .tok 2 1 5 [] 2 _ none (by decide) (by decide) (by decide) rfl ?_
  refine .tok 3 1 7 [42] 0 _ none (by decide) (by decide) (by decide) rfl ?_
  refine .tok 4 1 7 [45] 0 _ none (by decide) (by decide) (by decide) rfl ?_
  refine .tok 5 1 1 [120] 0 _ none (by decide) (by decide) (by decide) rfl ?_
  refine .tok 6 1 7 [44] 0 _ none (by decide) (by decide) (by decide) rfl ?_
  exact .done
def tkE : List Tk6 := lineE.map (Piece.tk 1)
def ndE : List Nd := [⟨1, 1, 1, 1, ⟨#[]⟩⟩, ⟨1, 1, 3, 2, ⟨#[]⟩⟩, ⟨2, 1, 6, 0, ba [120]⟩, ⟨4, 1, 5, 0, ⟨#[]⟩⟩, ⟨11, 1, 4, 0, ⟨#[]⟩⟩, ⟨9, 1, 2, 0, ⟨#[]⟩⟩]
def first' (t : Tk6) : Option (Option Int × EKind) :=
  if (t.kind == 7 && t.text.data.toList == [45]) = true then some (some 4, .part) else if (t.kind == 7 && t.text.data.toList == [126]) = true then some (some 5, .part)
  else if t.kind = 4 then some (some (funcKind t.text), .argument) else if (t.kind == 7 && t.text.data.toList == [40]) = true then some (none, .closed) else none
theorem first_eq (t : Tk6) : t.first = first' t := by
  unfold Tk6.first first'
  rw [isM_eq, isM_eq, isM_eq]
def tight' (t : Tk6) : Nat :=
  let l := t.text.data.toList
  if t.kind = 7 then (if l == [42] || l == [47] then 6 else if l == [43] || l == [45] then 5 else if l == [60, 60] || l == [62, 62] then 4 else if l == [38] then 3 else if l == [94] then 2 else if l == [124] then 1 else 0) else 0
theorem tight_eq (t : Tk6) : t.tight = tight' t := by
  unfold Tk6.tight tight' isT
  rw [ByteArray.toList_eq]
def leaf' (t : Tk6) : Option Nd :=
  if t.kind = 5 then some ⟨1, t.line, t.col, t.num, ⟨#[]⟩⟩
  else if t.kind = 1 then (if t.text.data.toList == [46] then some (t.node 3) else some ⟨2, t.line, t.col, 0, t.text⟩)
  else if t.kind = 2 then some ⟨2, t.line, t.col, 0, t.text ++ ⟨#[64, 48]⟩⟩ else none
theorem leaf_eq (t : Tk6) : t.leaf = leaf' t := by
  unfold Tk6.leaf leaf' isT
  rw [ByteArray.toList_eq]
def twoKind' (s : ByteArray) : Int :=
  let l := s.data.toList
  if l == [124] then 17 else if l == [94] then 16 else if l == [38] then 15 else if l == [60, 60] then 13 else if l == [62, 62] then 14 else if l == [43] then 9 else if l == [45] then 10 else if l == [42] then 11 else 12
theorem twoKind_eq (s : ByteArray) : twoKind s = twoKind' s := by
  unfold twoKind twoKind' isT
  rw [ByteArray.toList_eq]
/-- The check's expression. -/
theorem runE : ERun tkE (.bound 1) 0 0 [] (.inl (6, ndE)) := by
  have t6 : ∀ l, 0 < l → ∀ t, tkE[6]? = some t → t.tight < l := fun l hl t h => by
    injection h with h
    rw [← h, tight_eq]
    exact hl
  refine .bound 1 0 0 [] 1 [⟨1, 1, 1, 1, ⟨#[]⟩⟩] _ (.leaf 0 0 [] (Piece.tk 1 ⟨0, 5, [], 1⟩) _ rfl (by rw [first_eq]; rfl) (by rw [leaf_eq]; rfl)) ?_
  refine .more 1 0 1 _ (Piece.tk 1 ⟨1, 7, [43], 0⟩) 6 [⟨1, 1, 1, 1, ⟨#[]⟩⟩, ⟨1, 1, 3, 2, ⟨#[]⟩⟩, ⟨2, 1, 6, 0, ba [120]⟩, ⟨4, 1, 5, 0, ⟨#[]⟩⟩, ⟨11, 1, 4, 0, ⟨#[]⟩⟩] _ rfl (by rw [tight_eq]; decide) ?_ ?_
  · rw [tight_eq]
    refine .bound 6 0 2 _ 3 [⟨1, 1, 1, 1, ⟨#[]⟩⟩, ⟨1, 1, 3, 2, ⟨#[]⟩⟩] _ (.leaf 0 2 _ (Piece.tk 1 ⟨2, 5, [], 2⟩) _ rfl (by rw [first_eq]; rfl) (by rw [leaf_eq]; rfl)) ?_
    have hk : [⟨1, 1, 1, 1, ⟨#[]⟩⟩, ⟨1, 1, 3, 2, ⟨#[]⟩⟩, ⟨2, 1, 6, 0, ba [120]⟩, ⟨4, 1, 5, 0, ⟨#[]⟩⟩, ⟨11, 1, 4, 0, ⟨#[]⟩⟩] = [⟨1, 1, 1, 1, ⟨#[]⟩⟩, ⟨1, 1, 3, 2, ⟨#[]⟩⟩, ⟨2, 1, 6, 0, ba [120]⟩, ⟨4, 1, 5, 0, ⟨#[]⟩⟩] ++ [(Piece.tk 1 ⟨3, 7, [42], 0⟩).node (twoKind (Piece.tk 1 ⟨3, 7, [42], 0⟩).text)] := by
      rw [twoKind_eq]
      rfl
    refine .more 6 0 3 _ (Piece.tk 1 ⟨3, 7, [42], 0⟩) 6 [⟨1, 1, 1, 1, ⟨#[]⟩⟩, ⟨1, 1, 3, 2, ⟨#[]⟩⟩, ⟨2, 1, 6, 0, ba [120]⟩, ⟨4, 1, 5, 0, ⟨#[]⟩⟩] _ rfl (by rw [tight_eq]; decide) ?_ ?_
    · rw [tight_eq]
      refine .bound 7 0 4 _ 6 [⟨1, 1, 1, 1, ⟨#[]⟩⟩, ⟨1, 1, 3, 2, ⟨#[]⟩⟩, ⟨2, 1, 6, 0, ba [120]⟩, ⟨4, 1, 5, 0, ⟨#[]⟩⟩] _ ?_ (.done 7 0 6 _ (t6 7 (by decide)))
      refine .ahead 0 4 _ (Piece.tk 1 ⟨4, 7, [45], 0⟩) (some 4) .part 6 [⟨1, 1, 1, 1, ⟨#[]⟩⟩, ⟨1, 1, 3, 2, ⟨#[]⟩⟩, ⟨2, 1, 6, 0, ba [120]⟩] rfl (by rw [first_eq]; rfl) (by decide) ?_
      exact .leaf 1 5 _ (Piece.tk 1 ⟨5, 1, [120], 0⟩) _ rfl (by rw [first_eq]; rfl) (by rw [leaf_eq]; rfl)
    · rw [← hk]
      exact .done 6 0 6 _ (t6 6 (by decide))
  · have hk : ndE = [⟨1, 1, 1, 1, ⟨#[]⟩⟩, ⟨1, 1, 3, 2, ⟨#[]⟩⟩, ⟨2, 1, 6, 0, ba [120]⟩, ⟨4, 1, 5, 0, ⟨#[]⟩⟩, ⟨11, 1, 4, 0, ⟨#[]⟩⟩] ++ [(Piece.tk 1 ⟨1, 7, [43], 0⟩).node (twoKind (Piece.tk 1 ⟨1, 7, [43], 0⟩).text)] := by
      rw [twoKind_eq]
      rfl
    rw [← hk]
    exact .done 1 0 6 _ (t6 1 (by decide))
/-- No token is no expression. -/
theorem runNil : ERun [] (.bound 1) 0 0 [] (.inr (0, 6)) := .boundFell 1 0 0 [] _ (.none 0 0 [] rfl)
end Go.Proofs.YtbhfblogjlpnlaaDoor
