/-
  A remark behind a line, and blanks ahead of it, change no token but its place: on lists of bytes. No program.
-/
import Derived.Test.YtbhfblogjlpnlaaDoorSpecLines
namespace Go.Proofs.YtbhfblogjlpnlaaDoor

theorem rk_pre_more (p : UInt8 → Bool) (hp : p 32 = false) (y : Bs) : ∀ (l : Bs), pre p (l ++ 32 :: y) = pre p l
  | [] => by simp [pre, hp]
  | c :: l => by
    have := rk_pre_more p hp y l
    unfold pre at this ⊢
    rw [List.cons_append, List.takeWhile_cons, List.takeWhile_cons]
    split
    · simp [this]
    · rfl
theorem rk_getD_more (l s : Bs) {i : Nat} (h : i < l.length) : (l ++ s).getD i 0 = l.getD i 0 := by
  rw [List.getD_eq_getElem?_getD, List.getD_eq_getElem?_getD, List.getElem?_append_left h]
theorem rk_getD_end (l : Bs) (c : UInt8) (y : Bs) : (l ++ c :: y).getD l.length 0 = c := by
  rw [List.getD_eq_getElem?_getD, List.getElem?_append_right (Nat.le_refl _), Nat.sub_self]
  rfl
theorem rk_base_more {c : UInt8} {r y : Bs} : baseOf (c :: r ++ 32 :: y) = baseOf (c :: r) := by
  cases r with
  | nil => simp [baseOf]
  | cons d r => simp [baseOf]
theorem rk_base_le (l : Bs) : (baseOf l).2 ≤ l.length ∧ (baseOf l).1 ≤ 16 := by
  unfold baseOf
  split
  · rename_i h
    have := congrArg List.length h
    simp at this
    exact ⟨by simp; omega, by decide⟩
  · split
    · rename_i h
      have := congrArg List.length h
      simp at this
      exact ⟨by simp; omega, by decide⟩
    · exact ⟨Nat.zero_le _, by decide⟩
theorem rk_numeral_more {c : UInt8} {r : Bs} {v n : Nat} (y : Bs) (h : numeral (c :: r) = some (v, n)) : numeral (c :: r ++ 32 :: y) = some (v, n) := by
  have hb := rk_base_le (c :: r)
  rw [← h]
  unfold numeral
  simp only
  rw [rk_base_more]
  generalize (baseOf (c :: r)).1 = B at *
  generalize (baseOf (c :: r)).2 = A at *
  generalize c :: r = l at *
  have hd : (l ++ 32 :: y).drop A = l.drop A ++ 32 :: y := by rw [List.drop_append_of_le_length hb.1]
  have hsp : decide (digV 32 < B) = false := by
    have h99 : digV 32 = 99 := by decide
    rw [h99]
    exact decide_eq_false (by omega)
  rw [hd, rk_pre_more (fun c => digV c < B) hsp]
  have hp := pre_le (fun c => digV c < B) (l.drop A)
  rw [List.length_drop] at hp
  have hN : A + pre (fun c => digV c < B) (l.drop A) ≤ l.length := by omega
  generalize A + pre (fun c => digV c < B) (l.drop A) = N at *
  have ht : (l ++ 32 :: y).take N = l.take N := List.take_append_of_le_length hN
  have hg : (goOnName ((l ++ 32 :: y).getD N 0) && decide (N < (l ++ 32 :: y).length)) = (goOnName (l.getD N 0) && decide (N < l.length)) := by
    rcases Nat.lt_or_ge N l.length with h1 | h1
    · rw [rk_getD_more _ _ h1, decide_eq_true h1, decide_eq_true (by rw [List.length_append]; omega)]
    · obtain rfl : N = l.length := by omega
      rw [rk_getD_end, decide_eq_false (Nat.lt_irrefl _), show goOnName 32 = false by decide, Bool.false_and, Bool.and_false]
  rw [ht, hg]
theorem rk_esc_more {l : Bs} {b : UInt8} {n : Nat} (y : Bs) (h : escR l = some (b, n)) : escR (l ++ 32 :: y) = some (b, n) := by
  unfold escR at h
  split at h
  · cases h
  · rename_i h2
    unfold escR
    rw [if_neg (by rw [List.length_append]; omega), rk_getD_more _ _ (by omega)]
    split at h
    · exact h
    · split at h
      · rename_i h3
        rw [if_pos ⟨h3.1, by rw [List.length_append]; omega, by rw [rk_getD_more _ _ (by omega)]; exact h3.2.2.1, by rw [rk_getD_more _ _ (by omega)]; exact h3.2.2.2⟩, rk_getD_more _ _ (by omega), rk_getD_more _ _ (by omega)]
        exact h
      · cases h
theorem rk_unit_more {q : UInt8} {l : Bs} {b : UInt8} {n : Nat} (y : Bs) (h : unit q l = some (b, n)) : unit q (l ++ 32 :: y) = some (b, n) := by
  cases l with
  | nil => cases h
  | cons c r =>
    rw [unit_cons] at h
    rw [List.cons_append, unit_cons]
    split at h
    · cases h
    · rename_i h1
      rw [if_neg h1]
      split at h
      · rename_i h2
        rw [if_pos h2]
        exact rk_esc_more y h
      · rename_i h2
        rw [if_neg h2]
        exact h
theorem rk_body_more {q : UInt8} (y : Bs) : ∀ (k : Nat) (l : Bs) {x : Bs × Nat}, body q k l = some x → body q k (l ++ 32 :: y) = some x
  | _, [], x, h => by simp [body] at h
  | k + 1, c :: r, x, h => by
    rw [body] at h
    rw [List.cons_append, body]
    cases hb : body q k r with
    | none => rw [hb] at h; cases h
    | some z => rw [hb] at h; rw [rk_body_more y k r hb]; exact h
  | 0, c :: r, x, h => by
    rw [body] at h
    rw [List.cons_append, body]
    split at h
    · rename_i h1
      rw [if_pos h1]
      exact h
    · rename_i h1
      rw [if_neg h1]
      cases hu : unit q (c :: r) with
      | none => rw [hu] at h; cases h
      | some z =>
        obtain ⟨b, n⟩ := z
        have hm := rk_unit_more y hu
        rw [List.cons_append] at hm
        rw [hu] at h
        rw [hm]
        simp only at h ⊢
        cases hb : body q (n - 1) r with
        | none => rw [hb] at h; cases h
        | some z => rw [hb] at h; rw [rk_body_more y (n - 1) r hb]; exact h
theorem rk_tokC_more {c : UInt8} {r : Bs} {k : Int} {t : Bs} {v : Int} {n : Nat} (y : Bs) (h : tokC c r = .ok k t v n) : tokC c (r ++ 32 :: y) = .ok k t v n := by
  have hp := pre_le goOn r
  have e1 : pre goOn (r ++ 32 :: y) = pre goOn r := rk_pre_more _ (by decide) y r
  have e2 : (r ++ 32 :: y).take (pre goOn r) = r.take (pre goOn r) := List.take_append_of_le_length hp
  have e3 : pre goOnName (c :: (r ++ 32 :: y)) = pre goOnName (c :: r) := rk_pre_more _ (by decide) y (c :: r)
  have e4 : (c :: (r ++ 32 :: y)).take (pre goOnName (c :: r)) = (c :: r).take (pre goOnName (c :: r)) := List.take_append_of_le_length (l₁ := c :: r) (pre_le _ _)
  unfold tokC at h ⊢
  rw [e1, e2, e3, e4]
  split at h
  · rename_i h1
    rw [if_pos h1]
    exact h
  rename_i h1
  rw [if_neg h1]
  split at h
  · rename_i h2
    rw [if_pos h2]
    cases hn : numeral (c :: r) with
    | none => rw [hn] at h; cases h
    | some z =>
      obtain ⟨a, b⟩ := z
      have hm := rk_numeral_more y hn
      rw [List.cons_append] at hm
      rw [hn] at h
      rw [hm]
      exact h
  rename_i h2
  rw [if_neg h2]
  split at h
  · rename_i h3
    rw [if_pos h3]
    cases hu : unit 39 r with
    | none => rw [hu] at h; cases h
    | some z =>
      obtain ⟨a, b⟩ := z
      rw [hu] at h
      rw [rk_unit_more y hu]
      simp only at h ⊢
      split at h
      · rename_i h4
        rw [if_pos ⟨by rw [rk_getD_more _ _ h4.2]; exact h4.1, by rw [List.length_append]; omega⟩]
        exact h
      · cases h
  rename_i h3
  rw [if_neg h3]
  split at h
  · rename_i h4
    rw [if_pos h4]
    cases hb : body 34 0 r with
    | none => rw [hb] at h; cases h
    | some z => rw [hb] at h; rw [rk_body_more y 0 r hb]; exact h
  rename_i h4
  rw [if_neg h4]
  split at h
  · rename_i h5
    rw [if_pos h5]
    exact h
  rename_i h5
  rw [if_neg h5]
  split at h
  · rename_i h6
    rw [if_pos h6]
    split at h
    · rename_i h7
      rw [if_pos ⟨h7.1, by rw [rk_getD_more _ _ (by omega)]; exact h7.2⟩]
      exact h
    · cases h
  rename_i h6
  rw [if_neg h6]
  split at h
  · rename_i h7
    rw [if_pos h7]
    split at h
    · rename_i h8
      rw [if_pos ⟨h8.1, by rw [rk_getD_more _ _ (by omega)]; exact h8.2⟩]
      exact h
    · cases h
  rename_i h7
  rw [if_neg h7]
  split at h
  · rename_i h8
    rw [if_pos h8]
    split at h
    · rename_i h9
      rw [if_pos ⟨by rw [rk_getD_more _ _ h9.2]; exact h9.1, by rw [List.length_append]; omega⟩]
      exact h
    · cases h
  rename_i h8
  rw [if_neg h8]
  exact h
theorem rk_tok_more {l : Bs} {k : Int} {t : Bs} {v : Int} {n : Nat} (y : Bs) (h : tokR l = .ok k t v n) : tokR (l ++ 32 :: y) = .ok k t v n := by
  cases l with
  | nil => cases h
  | cons c r => exact rk_tokC_more y h

/-- A remark behind a line changes no token. -/
theorem lex_remark {l : Bs} {i : Nat} {ps : List Piece} {e : Option (Nat × Int)} (y : Bs) (h : LexFrom l i ps e) (he : e = none) : LexFrom (l ++ 32 :: 35 :: y) i ps none := by
  induction h with
  | done =>
    refine .blank _ _ _ (by simp) (by rw [rk_getD_end]; decide) (.remark _ (by simp) ?_)
    have := rk_getD_end (l ++ [32]) 35 y
    rw [List.append_assoc, List.length_append] at this
    exact this
  | remark i h hr => exact .remark i (by rw [List.length_append]; omega) (by rw [rk_getD_more _ _ h]; exact hr)
  | blank i ps e h hb r ih => exact .blank i ps none (by rw [List.length_append]; omega) (by rw [rk_getD_more _ _ h]; exact hb) (ih he)
  | bad i code h hb hr ht => cases he
  | tok i n k text num ps e h hb hr ht r ih =>
    exact .tok i n k text num ps none (by rw [List.length_append]; omega) (by rw [rk_getD_more _ _ h]; exact hb) (by rw [rk_getD_more _ _ h]; exact hr) (by rw [List.drop_append_of_le_length (Nat.le_of_lt h)]; exact rk_tok_more _ ht) (ih he)

/-- The tokens, further right. -/
def Piece.right (m : Nat) (p : Piece) : Piece := ⟨m + p.at_, p.kind, p.text, p.num⟩
theorem lex_right {l : Bs} {i : Nat} {ps : List Piece} {e : Option (Nat × Int)} (p : Bs) (h : LexFrom l i ps e) (he : e = none) : LexFrom (p ++ l) (p.length + i) (ps.map (Piece.right p.length)) none := by
  have hg : ∀ i, (p ++ l).getD (p.length + i) 0 = l.getD i 0 := fun i => by
    rw [List.getD_eq_getElem?_getD, List.getD_eq_getElem?_getD, List.getElem?_append_right (by omega), Nat.add_sub_cancel_left]
  have hd : ∀ i, (p ++ l).drop (p.length + i) = l.drop i := fun i => by rw [List.drop_length_add_append]
  induction h with
  | done => rw [← List.length_append]; exact .done
  | remark i h hr => exact .remark _ (by rw [List.length_append]; omega) (by rw [hg]; exact hr)
  | blank i ps e h hb r ih => exact .blank _ _ _ (by rw [List.length_append]; omega) (by rw [hg]; exact hb) (ih he)
  | bad i code h hb hr ht => cases he
  | tok i n k text num ps e h hb hr ht r ih =>
    have := ih he
    rw [← Nat.add_assoc] at this
    exact .tok _ n k text num _ none (by rw [List.length_append]; omega) (by rw [hg]; exact hb) (by rw [hg]; exact hr) (by rw [hd]; exact ht) this
theorem lex_blanks {l : Bs} {ps : List Piece} {e : Option (Nat × Int)} (m : Nat) (h : LexFrom (List.replicate m 32 ++ l) m ps e) : ∀ j, j ≤ m → LexFrom (List.replicate m 32 ++ l) (m - j) ps e
  | 0, _ => h
  | j + 1, hj => by
    refine .blank _ _ _ (by simp; omega) ?_ ?_
    · rw [rk_getD_more _ _ (by simp; omega), List.getD_eq_getElem?_getD, List.getElem?_replicate, if_pos (by omega)]
      decide
    · rw [show m - (j + 1) + 1 = m - j by omega]
      exact lex_blanks m h j (by omega)

/-- Blanks ahead of a line, and a remark behind it. -/
theorem lex_both {l : Bs} {ps : List Piece} (m : Nat) (y : Bs) (h : LexFrom l 0 ps none) : LexFrom (List.replicate m 32 ++ (l ++ 32 :: 35 :: y)) 0 (ps.map (Piece.right m)) none := by
  have h1 := lex_right (List.replicate m 32) (lex_remark y h rfl) rfl
  rw [List.length_replicate, Nat.add_zero] at h1
  have := lex_blanks m h1 m (Nat.le_refl _)
  rwa [Nat.sub_self] at this
theorem rk_lines_one {l : Bs} {ps : List Piece} (hl : ∀ c ∈ l, c ≠ 10) (h : LexFrom l 0 ps none) : LinesR 0 (cut l) [ps] none := by
  rw [cut_last hl]
  exact .good 0 l [] ps [] none h (.nil 1)
theorem rk_one_line {l : Bs} {pss : List (List Piece)} (hl : ∀ c ∈ l, c ≠ 10) (h : LinesR 0 (cut l) pss none) : ∃ ps, pss = [ps] ∧ LexFrom l 0 ps none := by
  rw [cut_last hl] at h
  cases h with
  | good _ _ _ ps pss _ hlex hmore =>
    cases hmore
    exact ⟨ps, rfl, hlex⟩
end Go.Proofs.YtbhfblogjlpnlaaDoor
