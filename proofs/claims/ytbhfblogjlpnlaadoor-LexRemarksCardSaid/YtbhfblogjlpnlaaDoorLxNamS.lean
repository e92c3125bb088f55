/-
  Where the tokens of a line stand: one behind the other; a name's text stands at its place: on lists of bytes. No program.
-/
import Derived.Test.YtbhfblogjlpnlaaDoorSpecLines
namespace Go.Proofs.YtbhfblogjlpnlaaDoor

theorem tok_named {l : Bs} {t : Bs} {v : Int} {n : Nat} (h : tokR l = .ok 1 t v n) : t = l.take n ∧ n ≤ l.length := by
  cases l with
  | nil => injection h
  | cons c r =>
    have hn := tok_len h
    refine ⟨?_, hn.2⟩
    change tokC c r = _ at h
    unfold tokC at h
    repeat' split at h
    all_goals first
      | (injection h with h1 h2 h3 h4; exact absurd h1 (by decide))
      | (injection h with h1 h2 h3 h4; rw [← h2, ← h4])
      | (injection h)

/-- What is said of a token of a line. -/
def PieceOk (l : Bs) (i : Nat) (p : Piece) : Prop := i ≤ p.at_ ∧ p.at_ < l.length ∧ (p.kind = 1 → p.at_ + p.text.length ≤ l.length ∧ (l.drop p.at_).take p.text.length = p.text)
theorem PieceOk.less {l : Bs} {i j : Nat} {p : Piece} (h : PieceOk l j p) (hij : i ≤ j) : PieceOk l i p := ⟨Nat.le_trans hij h.1, h.2⟩

theorem names_ok {l : Bs} {i : Nat} {ps : List Piece} {e : Option (Nat × Int)} (h : LexFrom l i ps e) : ∀ (j : Nat) (p : Piece), ps[j]? = some p → PieceOk l i p ∧ ∀ q, ps[j + 1]? = some q → p.at_ < q.at_ := by
  induction h with
  | done => intro j p h; simp at h
  | remark i h hr => intro j p h; simp at h
  | blank i ps e h hb r ih =>
    intro j p hp
    obtain ⟨h1, h2⟩ := ih j p hp
    exact ⟨h1.less (by omega), h2⟩
  | bad i code h hb hr ht => intro j p h; simp at h
  | tok i n k text num ps e h hb hr ht r ih =>
    intro j p hp
    have hn := tok_len ht
    cases j with
    | zero =>
      simp at hp
      subst hp
      refine ⟨⟨Nat.le_refl _, h, fun hk => ?_⟩, fun q hq => ?_⟩
      · have hk1 : k = 1 := hk
        rw [hk1] at ht
        obtain ⟨h1, h2⟩ := tok_named ht
        rw [List.length_drop] at h2
        have hl : text.length = n := by rw [h1, List.length_take, List.length_drop]; omega
        refine ⟨by show i + text.length ≤ _; omega, ?_⟩
        show (l.drop i).take text.length = text
        rw [hl, ← h1]
      · simp at hq
        have := (ih 0 q (by simpa using hq)).1.1
        show i < q.at_
        omega
    | succ j =>
      simp at hp
      obtain ⟨h1, h2⟩ := ih j p hp
      exact ⟨h1.less (by omega), fun q hq => h2 q (by simpa using hq)⟩

/-- The column of the token ahead of the k-th one. -/
def lastOf (ps : List Piece) : Nat → Int
  | 0 => 0
  | k + 1 => match ps[k]? with
    | some p => (p.at_ : Int) + 1
    | none => 0
theorem lastOf_succ (ps : List Piece) (k : Nat) : lastOf ps (k + 1) = match ps[k]? with
    | some p => (p.at_ : Int) + 1
    | none => 0 := rfl
theorem last_less {l : Bs} {ps : List Piece} {e : Option (Nat × Int)} (h : LexFrom l 0 ps e) (k : Nat) (p : Piece) (hp : ps[k]? = some p) : 0 ≤ lastOf ps k ∧ lastOf ps k < (p.at_ : Int) + 1 := by
  cases k with
  | zero =>
    show (0 : Int) ≤ 0 ∧ (0 : Int) < _
    omega
  | succ k =>
    have hk : k < ps.length := by
      have := (List.getElem?_eq_some_iff.1 hp).1
      omega
    have hq : ps[k]? = some ps[k] := List.getElem?_eq_getElem hk
    have := (names_ok h k _ hq).2 p hp
    rw [lastOf_succ, hq]
    show (0 : Int) ≤ (ps[k].at_ : Int) + 1 ∧ (ps[k].at_ : Int) + 1 < _
    omega
theorem last_next {ps : List Piece} {k : Nat} {p : Piece} (hp : ps[k]? = some p) : lastOf ps (k + 1) = (p.at_ : Int) + 1 := by
  rw [lastOf_succ, hp]
end Go.Proofs.YtbhfblogjlpnlaaDoor
