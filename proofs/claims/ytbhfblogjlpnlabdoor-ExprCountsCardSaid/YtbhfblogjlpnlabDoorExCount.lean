/-
  The nodes of a whole expression: there is one more without parts than there are of two parts, and so it is of each beginning, or more. No program's contract.
-/
import Derived.Test.YtbhfblogjlpnlabDoorExSpec
namespace Go.Proofs.YtbhfblogjlpnlabDoor

/-- What a node counts. -/
def Nd.worth (n : Nd) : Int := (if n.kind ≤ 3 then 1 else 0) - (if 9 ≤ n.kind then 1 else 0)
def worth (ns : List Nd) : Int := (ns.map Nd.worth).sum
theorem worth_app (a b : List Nd) : worth (a ++ b) = worth a + worth b := by simp [worth]
theorem worth_one (n : Nd) : worth [n] = n.worth := by simp [worth]
/-- The nodes of an expression. -/
structure Whole (ns : List Nd) : Prop where
  one : worth ns = 1
  ahead : ∀ k, 0 < k → k ≤ ns.length → 1 ≤ worth (ns.take k)
theorem Whole.pos {ns : List Nd} (h : Whole ns) : 0 < ns.length := by
  rcases Nat.eq_zero_or_pos ns.length with h0 | h0
  · have := h.one
    rw [List.eq_nil_of_length_eq_zero h0] at this
    cases this
  · exact h0
theorem whole_leaf {n : Nd} (h : n.worth = 1) : Whole [n] :=
  ⟨by rw [worth_one, h], fun k h1 h2 => by
    obtain rfl : k = 1 := by simp at h2; omega
    show 1 ≤ worth [n]
    rw [worth_one, h]
    decide⟩
theorem Whole.over {a : List Nd} (h : Whole a) {n : Nd} (hn : n.worth = 0) : Whole (a ++ [n]) := by
  refine ⟨by rw [worth_app, worth_one, h.one, hn]; rfl, fun k h1 h2 => ?_⟩
  rw [List.length_append, List.length_singleton] at h2
  rcases Nat.lt_or_ge a.length k with hk | hk
  · obtain rfl : k = a.length + 1 := by omega
    rw [List.take_of_length_le (by simp), worth_app, worth_one, h.one, hn]
    decide
  · rw [List.take_append_of_le_length hk]
    exact h.ahead k h1 hk
theorem Whole.two {a b : List Nd} (ha : Whole a) (hb : Whole b) {n : Nd} (hn : n.worth = -1) : Whole (a ++ b ++ [n]) := by
  refine ⟨by rw [worth_app, worth_app, worth_one, ha.one, hb.one, hn]; rfl, fun k h1 h2 => ?_⟩
  rw [List.length_append, List.length_append, List.length_singleton] at h2
  rcases Nat.lt_or_ge a.length k with hk | hk
  · rcases Nat.lt_or_ge (a.length + b.length) k with hk2 | hk2
    · obtain rfl : k = a.length + b.length + 1 := by omega
      rw [List.take_of_length_le (by simp; omega), worth_app, worth_app, worth_one, ha.one, hb.one, hn]
      decide
    · rw [List.take_append_of_le_length (by rw [List.length_append]; exact hk2), List.take_append, List.take_of_length_le (by omega), worth_app, ha.one]
      have := hb.ahead (k - a.length) (by omega) (by omega)
      omega
  · rw [List.take_append_of_le_length (by rw [List.length_append]; omega), List.take_append_of_le_length hk]
    exact ha.ahead k h1 hk

theorem leaf_worth {t : Tk6} {n : Nd} (h : t.leaf = some n) : n.worth = 1 := by
  unfold Tk6.leaf at h
  split at h
  · injection h with h; subst h; rfl
  · split at h
    · split at h
      · injection h with h; subst h; rfl
      · injection h with h; subst h; rfl
    · split at h
      · injection h with h; subst h; rfl
      · cases h
theorem two_worth (t : Tk6) : (t.node (twoKind t.text)).worth = -1 := by
  unfold Tk6.node twoKind
  repeat' split
  all_goals rfl
theorem func_worth (t : Tk6) : (t.node (funcKind t.text)).worth = 0 := by
  unfold Tk6.node funcKind
  repeat' split
  all_goals rfl
theorem Whole.nodes {a : List Nd} (h : Whole a) {t : Tk6} {k : Option Int} {q : EKind} (hf : t.first = some (k, q)) : Whole (a ++ t.nodes k) := by
  unfold Tk6.first at hf
  split at hf
  · injection hf with hf; injection hf with hf _; subst hf; exact h.over rfl
  · split at hf
    · injection hf with hf; injection hf with hf _; subst hf; exact h.over rfl
    · split at hf
      · injection hf with hf; injection hf with hf _; subst hf; exact h.over (func_worth t)
      · split at hf
        · injection hf with hf; injection hf with hf _; subst hf; show Whole (a ++ []); rwa [List.append_nil]
        · cases hf

/-- What a reading adds. -/
def EAdds (q : EKind) (ns : List Nd) : (Nat × List Nd) ⊕ (Nat × Int) → Prop
  | .inl (_, ns') => match q with
    | .more _ => ∀ a e, ns = a ++ e → Whole e → ∃ e', ns' = a ++ e' ∧ Whole e'
    | _ => ∃ e, ns' = ns ++ e ∧ Whole e
  | .inr _ => True
theorem erun_adds {ts : List Tk6} {q : EKind} {d i : Nat} {ns : List Nd} {r : (Nat × List Nd) ⊕ (Nat × Int)} (h : ERun ts q d i ns r) : EAdds q ns r := by
  induction h with
  | none d i ns h => trivial
  | leaf d i ns t n h hf hl => exact ⟨[n], rfl, whole_leaf (leaf_worth hl)⟩
  | bad d i ns t h hf hl => trivial
  | deep d i ns t k q h hf hd => trivial
  | fell d i ns t k q e h hf hd hr ih => trivial
  | ahead d i ns t k q j ns' h hf hd hr ih =>
    rcases first_kind hf with rfl | rfl | rfl
    all_goals
      obtain ⟨e, rfl, he⟩ := ih
      exact ⟨e ++ t.nodes k, by rw [List.append_assoc], he.nodes hf⟩
  | boundFell l d i ns e hr ih => trivial
  | bound l d i ns j ns' r hr hm ih1 ih2 =>
    cases r with
    | inl p =>
      obtain ⟨e, rfl, he⟩ := ih1
      exact ih2 ns e rfl he
    | inr p => trivial
  | done l d i ns h => exact fun a e h1 h2 => ⟨e, h1, h2⟩
  | moreFell l d i ns t e h hl hr ih => trivial
  | more l d i ns t j ns' r h hl hr hm ih1 ih2 =>
    cases r with
    | inl p =>
      intro a e h1 h2
      obtain ⟨e2, rfl, he2⟩ := ih1
      exact ih2 a (e ++ e2 ++ [t.node (twoKind t.text)]) (by rw [h1]; simp) (h2.two he2 (two_worth t))
    | inr p => trivial
  | closedFell d i ns e hr ih => trivial
  | closedBad d i ns j ns' hr h ih => trivial
  | closed d i ns j ns' hr h ih => exact ih
  | argumentBad d i ns h => trivial
  | argument d i ns r h hr ih =>
    cases r with
    | inl p => exact ih
    | inr p => trivial
end Go.Proofs.YtbhfblogjlpnlabDoor
