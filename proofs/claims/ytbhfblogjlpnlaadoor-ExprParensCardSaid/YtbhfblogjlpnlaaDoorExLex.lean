/-
  The tokens of a source of one line, in parentheses. No program.
-/
import Derived.Test.YtbhfblogjlpnlaaDoorSpecLines
namespace Go.Proofs.YtbhfblogjlpnlaaDoor

theorem pk_pre_more (p : UInt8 → Bool) (hp : p 41 = false) (y : Bs) : ∀ (l : Bs), pre p (l ++ 41 :: y) = pre p l
  | [] => by simp [pre, hp]
  | c :: l => by
    have := pk_pre_more p hp y l
    unfold pre at this ⊢
    rw [List.cons_append, List.takeWhile_cons, List.takeWhile_cons]
    split
    · simp [this]
    · rfl
theorem pk_getD_more (l s : Bs) {i : Nat} (h : i < l.length) : (l ++ s).getD i 0 = l.getD i 0 := by
  rw [List.getD_eq_getElem?_getD, List.getD_eq_getElem?_getD, List.getElem?_append_left h]
theorem pk_getD_end (l : Bs) (c : UInt8) (y : Bs) : (l ++ c :: y).getD l.length 0 = c := by
  rw [List.getD_eq_getElem?_getD, List.getElem?_append_right (Nat.le_refl _), Nat.sub_self]
  rfl
theorem pk_base_more {c : UInt8} {r y : Bs} : baseOf (c :: r ++ 41 :: y) = baseOf (c :: r) := by
  cases r with
  | nil => simp [baseOf]
  | cons d r => simp [baseOf]
theorem pk_base_le (l : Bs) : (baseOf l).2 ≤ l.length ∧ (baseOf l).1 ≤ 16 := by
  unfold baseOf
  split
  · rename_i h
    have := congrArg List.length h
    simp at this
    exact ⟨by simp; omega, by decide⟩
  · split
    · rename_i h
      have := congrArg List.length h
      simp at this
      exact ⟨by simp; omega, by decide⟩
    · exact ⟨Nat.zero_le _, by decide⟩
theorem pk_numeral_more {c : UInt8} {r : Bs} {v n : Nat} (y : Bs) (h : numeral (c :: r) = some (v, n)) : numeral (c :: r ++ 41 :: y) = some (v, n) := by
  have hb := pk_base_le (c :: r)
  rw [← h]
  unfold numeral
  simp only
  rw [pk_base_more]
  generalize (baseOf (c :: r)).1 = B at *
  generalize (baseOf (c :: r)).2 = A at *
  generalize c :: r = l at *
  have hd : (l ++ 41 :: y).drop A = l.drop A ++ 41 :: y := by rw [List.drop_append_of_le_length hb.1]
  have hsp : decide (digV 41 < B) = false := by
    have h99 : digV 41 = 99 := by decide
    rw [h99]
    exact decide_eq_false (by omega)
  rw [hd, pk_pre_more (fun c => digV c < B) hsp]
  have hp := pre_le (fun c => digV c < B) (l.drop A)
  rw [List.length_drop] at hp
  have hN : A + pre (fun c => digV c < B) (l.drop A) ≤ l.length := by omega
  generalize A + pre (fun c => digV c < B) (l.drop A) = N at *
  have ht : (l ++ 41 :: y).take N = l.take N := List.take_append_of_le_length hN
  have hg : (goOnName ((l ++ 41 :: y).getD N 0) && decide (N < (l ++ 41 :: y).length)) = (goOnName (l.getD N 0) && decide (N < l.length)) := by
    rcases Nat.lt_or_ge N l.length with h1 | h1
    · rw [pk_getD_more _ _ h1, decide_eq_true h1, decide_eq_true (by rw [List.length_append]; omega)]
    · obtain rfl : N = l.length := by omega
      rw [pk_getD_end, decide_eq_false (Nat.lt_irrefl _), show goOnName 41 = false by decide, Bool.false_and, Bool.and_false]
  rw [ht, hg]
theorem pk_esc_more {l : Bs} {b : UInt8} {n : Nat} (y : Bs) (h : escR l = some (b, n)) : escR (l ++ 41 :: y) = some (b, n) := by
  unfold escR at h
  split at h
  · cases h
  · rename_i h2
    unfold escR
    rw [if_neg (by rw [List.length_append]; omega), pk_getD_more _ _ (by omega)]
    split at h
    · exact h
    · split at h
      · rename_i h3
        rw [if_pos ⟨h3.1, by rw [List.length_append]; omega, by rw [pk_getD_more _ _ (by omega)]; exact h3.2.2.1, by rw [pk_getD_more _ _ (by omega)]; exact h3.2.2.2⟩, pk_getD_more _ _ (by omega), pk_getD_more _ _ (by omega)]
        exact h
      · cases h
theorem pk_unit_more {q : UInt8} {l : Bs} {b : UInt8} {n : Nat} (y : Bs) (h : unit q l = some (b, n)) : unit q (l ++ 41 :: y) = some (b, n) := by
  cases l with
  | nil => cases h
  | cons c r =>
    rw [unit_cons] at h
    rw [List.cons_append, unit_cons]
    split at h
    · cases h
    · rename_i h1
      rw [if_neg h1]
      split at h
      · rename_i h2
        rw [if_pos h2]
        exact pk_esc_more y h
      · rename_i h2
        rw [if_neg h2]
        exact h
theorem pk_body_more {q : UInt8} (y : Bs) : ∀ (k : Nat) (l : Bs) {x : Bs × Nat}, body q k l = some x → body q k (l ++ 41 :: y) = some x
  | _, [], x, h => by simp [body] at h
  | k + 1, c :: r, x, h => by
    rw [body] at h
    rw [List.cons_append, body]
    cases hb : body q k r with
    | none => rw [hb] at h; cases h
    | some z => rw [hb] at h; rw [pk_body_more y k r hb]; exact h
  | 0, c :: r, x, h => by
    rw [body] at h
    rw [List.cons_append, body]
    split at h
    · rename_i h1
      rw [if_pos h1]
      exact h
    · rename_i h1
      rw [if_neg h1]
      cases hu : unit q (c :: r) with
      | none => rw [hu] at h; cases h
      | some z =>
        obtain ⟨b, n⟩ := z
        have hm := pk_unit_more y hu
        rw [List.cons_append] at hm
        rw [hu] at h
        rw [hm]
        simp only at h ⊢
        cases hb : body q (n - 1) r with
        | none => rw [hb] at h; cases h
        | some z => rw [hb] at h; rw [pk_body_more y (n - 1) r hb]; exact h
theorem pk_tokC_more {c : UInt8} {r : Bs} {k : Int} {t : Bs} {v : Int} {n : Nat} (y : Bs) (h : tokC c r = .ok k t v n) : tokC c (r ++ 41 :: y) = .ok k t v n := by
  have hp := pre_le goOn r
  have e1 : pre goOn (r ++ 41 :: y) = pre goOn r := pk_pre_more _ (by decide) y r
  have e2 : (r ++ 41 :: y).take (pre goOn r) = r.take (pre goOn r) := List.take_append_of_le_length hp
  have e3 : pre goOnName (c :: (r ++ 41 :: y)) = pre goOnName (c :: r) := pk_pre_more _ (by decide) y (c :: r)
  have e4 : (c :: (r ++ 41 :: y)).take (pre goOnName (c :: r)) = (c :: r).take (pre goOnName (c :: r)) := List.take_append_of_le_length (l₁ := c :: r) (pre_le _ _)
  unfold tokC at h ⊢
  rw [e1, e2, e3, e4]
  split at h
  · rename_i h1
    rw [if_pos h1]
    exact h
  rename_i h1
  rw [if_neg h1]
  split at h
  · rename_i h2
    rw [if_pos h2]
    cases hn : numeral (c :: r) with
    | none => rw [hn] at h; cases h
    | some z =>
      obtain ⟨a, b⟩ := z
      have hm := pk_numeral_more y hn
      rw [List.cons_append] at hm
      rw [hn] at h
      rw [hm]
      exact h
  rename_i h2
  rw [if_neg h2]
  split at h
  · rename_i h3
    rw [if_pos h3]
    cases hu : unit 39 r with
    | none => rw [hu] at h; cases h
    | some z =>
      obtain ⟨a, b⟩ := z
      rw [hu] at h
      rw [pk_unit_more y hu]
      simp only at h ⊢
      split at h
      · rename_i h4
        rw [if_pos ⟨by rw [pk_getD_more _ _ h4.2]; exact h4.1, by rw [List.length_append]; omega⟩]
        exact h
      · cases h
  rename_i h3
  rw [if_neg h3]
  split at h
  · rename_i h4
    rw [if_pos h4]
    cases hb : body 34 0 r with
    | none => rw [hb] at h; cases h
    | some z => rw [hb] at h; rw [pk_body_more y 0 r hb]; exact h
  rename_i h4
  rw [if_neg h4]
  split at h
  · rename_i h5
    rw [if_pos h5]
    exact h
  rename_i h5
  rw [if_neg h5]
  split at h
  · rename_i h6
    rw [if_pos h6]
    split at h
    · rename_i h7
      rw [if_pos ⟨h7.1, by rw [pk_getD_more _ _ (by omega)]; exact h7.2⟩]
      exact h
    · cases h
  rename_i h6
  rw [if_neg h6]
  split at h
  · rename_i h7
    rw [if_pos h7]
    split at h
    · rename_i h8
      rw [if_pos ⟨h8.1, by rw [pk_getD_more _ _ (by omega)]; exact h8.2⟩]
      exact h
    · cases h
  rename_i h7
  rw [if_neg h7]
  split at h
  · rename_i h8
    rw [if_pos h8]
    split at h
    · rename_i h9
      rw [if_pos ⟨by rw [pk_getD_more _ _ h9.2]; exact h9.1, by rw [List.length_append]; omega⟩]
      exact h
    · cases h
  rename_i h8
  rw [if_neg h8]
  exact h
theorem pk_tok_more {l : Bs} {k : Int} {t : Bs} {v : Int} {n : Nat} (y : Bs) (h : tokR l = .ok k t v n) : tokR (l ++ 41 :: y) = .ok k t v n := by
  cases l with
  | nil => cases h
  | cons c r => exact pk_tokC_more y h

/-- A remark behind a line changes no token. -/
def Piece.right (m : Nat) (p : Piece) : Piece := ⟨m + p.at_, p.kind, p.text, p.num⟩
theorem lex_right {l : Bs} {i : Nat} {ps : List Piece} {e : Option (Nat × Int)} (p : Bs) (h : LexFrom l i ps e) (he : e = none) : LexFrom (p ++ l) (p.length + i) (ps.map (Piece.right p.length)) none := by
  have hg : ∀ i, (p ++ l).getD (p.length + i) 0 = l.getD i 0 := fun i => by
    rw [List.getD_eq_getElem?_getD, List.getD_eq_getElem?_getD, List.getElem?_append_right (by omega), Nat.add_sub_cancel_left]
  have hd : ∀ i, (p ++ l).drop (p.length + i) = l.drop i := fun i => by rw [List.drop_length_add_append]
  induction h with
  | done => rw [← List.length_append]; exact .done
  | remark i h hr => exact .remark _ (by rw [List.length_append]; omega) (by rw [hg]; exact hr)
  | blank i ps e h hb r ih => exact .blank _ _ _ (by rw [List.length_append]; omega) (by rw [hg]; exact hb) (ih he)
  | bad i code h hb hr ht => cases he
  | tok i n k text num ps e h hb hr ht r ih =>
    have := ih he
    rw [← Nat.add_assoc] at this
    exact .tok _ n k text num _ none (by rw [List.length_append]; omega) (by rw [hg]; exact hb) (by rw [hg]; exact hr) (by rw [hd]; exact ht) this
theorem pk_lines_one {l : Bs} {ps : List Piece} (hl : ∀ c ∈ l, c ≠ 10) (h : LexFrom l 0 ps none) : LinesR 0 (cut l) [ps] none := by
  rw [cut_last hl]
  exact .good 0 l [] ps [] none h (.nil 1)
theorem pk_one_line {l : Bs} {pss : List (List Piece)} (hl : ∀ c ∈ l, c ≠ 10) (h : LinesR 0 (cut l) pss none) : ∃ ps, pss = [ps] ∧ LexFrom l 0 ps none := by
  rw [cut_last hl] at h
  cases h with
  | good _ _ _ ps pss _ hlex hmore =>
    cases hmore
    exact ⟨ps, rfl, hlex⟩

theorem lex_close {l : Bs} {i : Nat} {ps : List Piece} {e : Option (Nat × Int)} (h : LexFrom l i ps e) (he : e = none) : ∃ tail, (tail = [] ∨ tail = [⟨l.length, 7, [41], 0⟩]) ∧ LexFrom (l ++ [41]) i (ps ++ tail) none := by
  induction h with
  | done =>
    refine ⟨[⟨l.length, 7, [41], 0⟩], .inr rfl, ?_⟩
    refine .tok l.length 1 7 [41] 0 [] none (by simp) (by rw [pk_getD_end]; decide) (by rw [pk_getD_end]; decide) (by rw [List.drop_left]; rfl) ?_
    have := LexFrom.done (l := l ++ [41])
    rwa [List.length_append] at this
  | remark i h hr => exact ⟨[], .inl rfl, .remark i (by rw [List.length_append]; omega) (by rw [pk_getD_more _ _ h]; exact hr)⟩
  | blank i ps e h hb r ih =>
    obtain ⟨tail, h1, h2⟩ := ih he
    exact ⟨tail, h1, .blank i _ none (by rw [List.length_append]; omega) (by rw [pk_getD_more _ _ h]; exact hb) h2⟩
  | bad i code h hb hr ht => cases he
  | tok i n k text num ps e h hb hr ht r ih =>
    obtain ⟨tail, h1, h2⟩ := ih he
    exact ⟨tail, h1, .tok i n k text num _ none (by rw [List.length_append]; omega) (by rw [pk_getD_more _ _ h]; exact hb) (by rw [pk_getD_more _ _ h]; exact hr) (by rw [List.drop_append_of_le_length (Nat.le_of_lt h)]; exact pk_tok_more [] ht) h2⟩

/-- A line in parentheses. -/
theorem lex_paren {l : Bs} {ps : List Piece} (h : LexFrom l 0 ps none) : ∃ tail, (tail = [] ∨ tail = [⟨1 + l.length, 7, [41], 0⟩]) ∧ LexFrom (40 :: (l ++ [41])) 0 (⟨0, 7, [40], 0⟩ :: (ps.map (Piece.right 1) ++ tail)) none := by
  obtain ⟨tail, h1, h2⟩ := lex_close h rfl
  have h3 := lex_right [40] h2 rfl
  rw [List.map_append] at h3
  refine ⟨tail.map (Piece.right 1), ?_, ?_⟩
  · rcases h1 with rfl | rfl
    · exact .inl rfl
    · exact .inr rfl
  · exact .tok 0 1 7 [40] 0 _ none (by simp) (show isBlank 40 = false by decide) (show (40 : UInt8) ≠ 35 by decide) rfl h3
theorem from_at {l : Bs} {i : Nat} {ps : List Piece} {e : Option (Nat × Int)} (h : LexFrom l i ps e) : ∀ p ∈ ps, p.at_ < l.length := by
  induction h with
  | done => intro p hp; cases hp
  | remark i h hr => intro p hp; cases hp
  | blank i ps e h hb r ih => exact ih
  | bad i code h hb hr ht => intro p hp; cases hp
  | tok i n k text num ps e h hb hr ht r ih =>
    intro p hp
    rcases List.mem_cons.1 hp with rfl | hp
    · exact h
    · exact ih p hp
theorem cut_one : ∀ (l : Bs), (cut l).length = 1 → ∀ c ∈ l, c ≠ 10
  | [], _, c, hc => by cases hc
  | a :: r, h, c, hc => by
    rw [cut] at h
    split at h
    · have := List.length_pos_iff.2 (cut_ne r)
      rw [List.length_cons] at h
      omega
    · rename_i ha
      have hr : (cut r).length = 1 := by
        split at h
        · rename_i hr
          exact absurd hr (cut_ne r)
        · rename_i l ls hr
          rw [hr]
          exact h
      rcases List.mem_cons.1 hc with rfl | hc
      · exact ha
      · exact cut_one r hr c hc
/-- A source of one line, in parentheses. -/
theorem lines_paren {l : Bs} {all : List (List Piece)} (h : LinesR 0 (cut l) all none) (h1 : all.length = 1) : ∃ ps tail, all = [ps] ∧ (∀ p ∈ ps, p.at_ < l.length) ∧ (tail = [] ∨ tail = [⟨1 + l.length, 7, [41], 0⟩]) ∧ LinesR 0 (cut (40 :: (l ++ [41]))) [⟨0, 7, [40], 0⟩ :: (ps.map (Piece.right 1) ++ tail)] none := by
  have hno := cut_one l (by rw [← h.len.2 rfl, h1])
  obtain ⟨ps, rfl, hlex⟩ := pk_one_line hno h
  obtain ⟨tail, ht, h2⟩ := lex_paren hlex
  refine ⟨ps, tail, rfl, from_at hlex, ht, pk_lines_one (fun c hc => ?_) h2⟩
  rcases List.mem_cons.1 hc with rfl | hc
  · decide
  · rcases List.mem_append.1 hc with hc | hc
    · exact hno c hc
    · obtain rfl := List.mem_singleton.1 hc
      decide
end Go.Proofs.YtbhfblogjlpnlaaDoor
