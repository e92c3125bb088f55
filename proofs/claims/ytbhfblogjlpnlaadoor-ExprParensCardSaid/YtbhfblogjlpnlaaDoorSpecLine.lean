/-
  What tokens a line has: the document's lexer as a relation on lists of bytes. No program.
-/
import Derived.Test.YtbhfblogjlpnlaaDoorSpec
namespace Go.Proofs.YtbhfblogjlpnlaaDoor

/-- A token that a line has: where it begins, its kind, its text, its number. -/
structure Piece where
  at_ : Nat
  kind : Int
  text : Bs
  num : Int

/-- From a place on, a line has just these tokens; then it ends, or at a place there is none, for a reason. -/
inductive LexFrom (l : Bs) : Nat → List Piece → Option (Nat × Int) → Prop
  | done : LexFrom l l.length [] none
  | remark (i : Nat) (h : i < l.length) (hr : l.getD i 0 = 35) : LexFrom l i [] none
  | blank (i : Nat) (ps : List Piece) (e : Option (Nat × Int)) (h : i < l.length) (hb : isBlank (l.getD i 0) = true) (r : LexFrom l (i + 1) ps e) : LexFrom l i ps e
  | bad (i : Nat) (code : Int) (h : i < l.length) (hb : isBlank (l.getD i 0) = false) (hr : l.getD i 0 ≠ 35) (ht : tokR (l.drop i) = .bad code) : LexFrom l i [] (some (i, code))
  | tok (i n : Nat) (k : Int) (text : Bs) (num : Int) (ps : List Piece) (e : Option (Nat × Int)) (h : i < l.length) (hb : isBlank (l.getD i 0) = false) (hr : l.getD i 0 ≠ 35)
      (ht : tokR (l.drop i) = .ok k text num n) (r : LexFrom l (i + n) ps e) : LexFrom l i (⟨i, k, text, num⟩ :: ps) e

theorem LexFrom.le {l : Bs} {i : Nat} {ps : List Piece} {e : Option (Nat × Int)} (h : LexFrom l i ps e) : i ≤ l.length ∧ ps.length ≤ l.length - i := by
  induction h with
  | done => simp
  | remark i h hr => simp; omega
  | blank i ps e h hb r ih => omega
  | bad i code h hb hr ht => simp; omega
  | tok i n k text num ps e h hb hr ht r ih =>
    have := tok_len ht
    simp
    omega

/-- Every line has its tokens. -/
theorem lex_all (l : Bs) : ∀ (m i : Nat), i + m = l.length → ∃ ps e, LexFrom l i ps e := by
  intro m
  induction m using Nat.strongRecOn with
  | ind m ih =>
    intro i hi
    by_cases h : i < l.length
    · by_cases hb : isBlank (l.getD i 0) = true
      · obtain ⟨ps, e, r⟩ := ih (m - 1) (by omega) (i + 1) (by omega)
        exact ⟨ps, e, .blank i ps e h hb r⟩
      · rw [Bool.not_eq_true] at hb
        by_cases hr : l.getD i 0 = 35
        · exact ⟨[], none, .remark i h hr⟩
        · cases ht : tokR (l.drop i) with
          | bad c => exact ⟨[], some (i, c), .bad i c h hb hr ht⟩
          | ok k text num n =>
            have hn := tok_len ht
            rw [List.length_drop] at hn
            obtain ⟨ps, e, r⟩ := ih (m - n) (by omega) (i + n) (by omega)
            exact ⟨_, e, .tok i n k text num ps e h hb hr ht r⟩
    · obtain rfl : i = l.length := by omega
      exact ⟨[], none, .done⟩
theorem lex_line (l : Bs) : ∃ ps e, LexFrom l 0 ps e := lex_all l l.length 0 (by omega)

theorem bad_pos {c : UInt8} {r : Bs} {code : Int} (h : tokC c r = .bad code) : code = 2 ∨ code = 3 ∨ code = 4 := by
  unfold tokC at h
  repeat' split at h
  all_goals first
    | (cases h; done)
    | (injection h with h; subst h; simp)
theorem bad_code {l : Bs} {code : Int} (h : tokR l = .bad code) : code = 2 ∨ code = 3 ∨ code = 4 := by
  cases l with
  | nil => injection h with h; subst h; simp
  | cons c r => exact bad_pos h
theorem LexFrom.code {l : Bs} {i : Nat} {ps : List Piece} {e : Option (Nat × Int)} (h : LexFrom l i ps e) : ∀ p c, e = some (p, c) → p < l.length ∧ (c = 2 ∨ c = 3 ∨ c = 4) := by
  induction h with
  | done => intro p c h; cases h
  | remark i h hr => intro p c h; cases h
  | blank i ps e h hb r ih => exact ih
  | bad i code h hb hr ht =>
    intro p c h
    injection h with h
    injection h with h1 h2
    subst h1 h2
    exact ⟨by assumption, bad_code ht⟩
  | tok i n k text num ps e h hb hr ht r ih => exact ih
end Go.Proofs.YtbhfblogjlpnlaaDoor
