/-
  What lines a source has: the document's lexer on lists of bytes. No program.
-/
import Derived.Test.YtbhfblogjlpnlaaDoorSpecLine
namespace Go.Proofs.YtbhfblogjlpnlaaDoor

/-- A source's lines: what stands between its line feeds. -/
def cut : Bs → List Bs
  | [] => [[]]
  | c :: r => if c = 10 then [] :: cut r else match cut r with
    | [] => [[c]]
    | l :: ls => (c :: l) :: ls

theorem cut_ne (l : Bs) : cut l ≠ [] := by
  cases l with
  | nil => simp [cut]
  | cons c r =>
    rw [cut]
    split
    · simp
    · split <;> simp
theorem cut_last : ∀ {x : Bs}, (∀ c ∈ x, c ≠ 10) → cut x = [x]
  | [], _ => rfl
  | c :: x, h => by
    rw [cut, if_neg (h c (by simp)), cut_last (fun d hd => h d (by simp [hd]))]
theorem cut_more : ∀ {x : Bs} (r : Bs), (∀ c ∈ x, c ≠ 10) → cut (x ++ 10 :: r) = x :: cut r
  | [], r, _ => by simp [cut]
  | c :: x, r, h => by
    rw [List.cons_append, cut, if_neg (h c (by simp)), cut_more r (fun d hd => h d (by simp [hd]))]
theorem cut_both (a b : Bs) : cut (a ++ 10 :: b) = cut a ++ cut b := by
  induction a with
  | nil => simp [cut]
  | cons c a ih =>
    rw [List.cons_append, cut, cut]
    split
    · rw [ih]
      rfl
    · rw [ih]
      cases hc : cut a with
      | nil => exact absurd hc (cut_ne a)
      | cons l ls => rfl
theorem cut_len (l : Bs) : (cut l).length ≤ l.length + 1 := by
  induction l with
  | nil => simp [cut]
  | cons c r ih =>
    rw [cut]
    split
    · simp
      omega
    · split
      · simp
      · rename_i l ls h
        rw [h] at ih
        simp at ih ⊢
        omega

/-- Lines, from a number on (the first one's is 0), are just these tokens, or one is none: which, where, why. -/
inductive LinesR : Nat → List Bs → List (List Piece) → Option (Nat × Nat × Int) → Prop
  | nil (n : Nat) : LinesR n [] [] none
  | good (n : Nat) (l : Bs) (ls : List Bs) (ps : List Piece) (pss : List (List Piece)) (e : Option (Nat × Nat × Int)) (h : LexFrom l 0 ps none) (r : LinesR (n + 1) ls pss e) : LinesR n (l :: ls) (ps :: pss) e
  | bad (n : Nat) (l : Bs) (ls : List Bs) (ps : List Piece) (i : Nat) (c : Int) (h : LexFrom l 0 ps (some (i, c))) : LinesR n (l :: ls) [] (some (n, i, c))

theorem lines_all : ∀ (ls : List Bs) (n : Nat), ∃ pss e, LinesR n ls pss e
  | [], n => ⟨[], none, .nil n⟩
  | l :: ls, n => by
    obtain ⟨ps, e, h⟩ := lex_line l
    cases e with
    | none =>
      obtain ⟨pss, e, r⟩ := lines_all ls (n + 1)
      exact ⟨ps :: pss, e, .good n l ls ps pss e h r⟩
    | some x => exact ⟨[], some (n, x.1, x.2), .bad n l ls ps x.1 x.2 h⟩

theorem LinesR.shift {n : Nat} {ls : List Bs} {pss : List (List Piece)} {e : Option (Nat × Nat × Int)} (h : LinesR n ls pss e) (m : Nat) : LinesR (n + m) ls pss (e.map fun x => (x.1 + m, x.2.1, x.2.2)) := by
  induction h with
  | nil n => exact .nil _
  | good n l ls ps pss e h r ih =>
    refine .good _ _ _ _ _ _ h ?_
    rwa [Nat.add_right_comm] at ih
  | bad n l ls ps i c h => exact .bad _ _ _ _ _ _ h
theorem LinesR.append {n : Nat} {ls : List Bs} {pss : List (List Piece)} {e : Option (Nat × Nat × Int)} (h : LinesR n ls pss e) {ms : List Bs} {qss : List (List Piece)} {f : Option (Nat × Nat × Int)} (g : LinesR (n + ls.length) ms qss f) (he : e = none) :
    LinesR n (ls ++ ms) (pss ++ qss) f := by
  induction h with
  | nil n => exact g
  | good n l ls ps pss e h r ih =>
    refine .good _ _ _ _ _ _ h (ih ?_ he)
    rw [List.length_cons] at g
    rwa [Nat.add_assoc, Nat.add_comm 1]
  | bad n l ls ps i c h => cases he
theorem LinesR.stop {n : Nat} {ls : List Bs} {pss : List (List Piece)} {e : Option (Nat × Nat × Int)} (h : LinesR n ls pss e) (ms : List Bs) (x : Nat × Nat × Int) (he : e = some x) : LinesR n (ls ++ ms) pss (some x) := by
  induction h with
  | nil n => cases he
  | good n l ls ps pss e h r ih => exact .good _ _ _ _ _ _ h (ih he)
  | bad n l ls ps i c h =>
    rw [← he]
    exact .bad _ _ _ _ _ _ h
theorem LinesR.len {n : Nat} {ls : List Bs} {pss : List (List Piece)} {e : Option (Nat × Nat × Int)} (h : LinesR n ls pss e) : pss.length ≤ ls.length ∧ (e = none → pss.length = ls.length) := by
  induction h with
  | nil n => simp
  | good n l ls ps pss e h r ih =>
    simp only [List.length_cons]
    exact ⟨by omega, fun he => by rw [ih.2 he]⟩
  | bad n l ls ps i c h => simp
theorem LinesR.code {n : Nat} {ls : List Bs} {pss : List (List Piece)} {e : Option (Nat × Nat × Int)} (h : LinesR n ls pss e) : ∀ a b c, e = some (a, b, c) → n ≤ a ∧ a < n + ls.length ∧ (c = 2 ∨ c = 3 ∨ c = 4) := by
  induction h with
  | nil n => intro a b c h; cases h
  | good n l ls ps pss e h r ih =>
    intro a b c he
    have := ih a b c he
    simp only [List.length_cons]
    omega
  | bad n l ls ps i c h =>
    intro a b c' he
    injection he with he
    injection he with h1 he
    injection he with h2 h3
    subst h1 h2 h3
    simp only [List.length_cons]
    exact ⟨by omega, by omega, (h.code _ _ rfl).2⟩
end Go.Proofs.YtbhfblogjlpnlaaDoor
