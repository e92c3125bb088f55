/-
  Parts: tokens parted by the commas at which no parenthesis is open; of a token only its mark counts (1: opens, 2: closes, 3: comma). No program.
-/
namespace Go.Proofs.YtbhfblogjlpnlabDoor
section
variable {α : Type} (m : α → Nat)

/-- How long the part is that begins here, so many parentheses being open. -/
def partEnd : Nat → List α → Nat
  | _, [] => 0
  | o, t :: r => if m t = 1 then 1 + partEnd (o + 1) r else if m t = 2 then 1 + partEnd (o - 1) r else if m t = 3 ∧ o = 0 then 0 else 1 + partEnd o r

theorem partEnd_le : ∀ (o : Nat) (r : List α), partEnd m o r ≤ r.length
  | _, [] => Nat.le_refl _
  | o, t :: r => by
    have h1 := partEnd_le (o + 1) r
    have h2 := partEnd_le (o - 1) r
    have h3 := partEnd_le o r
    rw [partEnd, List.length_cons]
    split
    · omega
    · split
      · omega
      · split <;> omega
/-- Ahead of its end a part has no comma that parts it. -/
theorem partEnd_take : ∀ (o : Nat) (r : List α) (k : Nat), k ≤ partEnd m o r → partEnd m o (r.take k) = k
  | _, [], k, h => by
    have : k = 0 := Nat.le_zero.1 h
    subst this
    rfl
  | _, _ :: _, 0, _ => rfl
  | o, t :: r, k + 1, h => by
    rw [partEnd] at h
    rw [List.take_succ_cons, partEnd]
    split at h
    · rename_i h1
      rw [if_pos h1, partEnd_take (o + 1) r k (by omega)]
      omega
    · rename_i h1
      rw [if_neg h1]
      split at h
      · rename_i h2
        rw [if_pos h2, partEnd_take (o - 1) r k (by omega)]
        omega
      · rename_i h2
        rw [if_neg h2]
        split at h
        · omega
        · rename_i h3
          rw [if_neg h3, partEnd_take o r k (by omega)]
          omega

/-- The parts of what is left. -/
inductive PartsR : List α → List (List α) → Prop
  | last (r : List α) (h : partEnd m 0 r = r.length) : PartsR r [r]
  | more (r : List α) (ps : List (List α)) (h : partEnd m 0 r < r.length) (hp : PartsR (r.drop (partEnd m 0 r + 1)) ps) : PartsR r (r.take (partEnd m 0 r) :: ps)

theorem parts_all : ∀ (n : Nat) (r : List α), r.length = n → ∃ ps, PartsR m r ps := by
  intro n
  induction n using Nat.strongRecOn with
  | ind n ih =>
    intro r hr
    rcases Nat.lt_or_ge (partEnd m 0 r) r.length with h | h
    · obtain ⟨ps, hp⟩ := ih (r.length - (partEnd m 0 r + 1)) (by omega) (r.drop (partEnd m 0 r + 1)) (by simp)
      exact ⟨_, .more r ps h hp⟩
    · exact ⟨_, .last r (Nat.le_antisymm (partEnd_le m 0 r) h)⟩
theorem parts_one {r : List α} {ps qs : List (List α)} (h : PartsR m r ps) (g : PartsR m r qs) : ps = qs := by
  induction h generalizing qs with
  | last r h =>
    cases g with
    | last _ _ => rfl
    | more _ _ h2 _ => omega
  | more r ps h hp ih =>
    cases g with
    | last _ h2 => omega
    | more _ _ _ hq => rw [ih hq]
/-- One part more than commas that part them. -/
theorem parts_sum {r : List α} {ps : List (List α)} (h : PartsR m r ps) : (ps.map List.length).sum + ps.length = r.length + 1 := by
  induction h with
  | last r h => simp
  | more r ps h hp ih =>
    simp only [List.map_cons, List.sum_cons, List.length_cons, List.length_take, List.length_drop] at ih ⊢
    omega
theorem parts_ne {r : List α} {ps : List (List α)} (h : PartsR m r ps) : ps ≠ [] := by cases h <;> simp
/-- No part has a comma outside its parentheses. -/
theorem parts_each {r : List α} {ps : List (List α)} (h : PartsR m r ps) : ∀ p ∈ ps, partEnd m 0 p = p.length := by
  induction h with
  | last r h =>
    intro p hp
    rw [List.mem_singleton.1 hp]
    exact h
  | more r ps h hp ih =>
    intro p hq
    rcases List.mem_cons.1 hq with rfl | hq
    · rw [partEnd_take m 0 r _ (Nat.le_refl _), List.length_take]
      omega
    · exact ih p hq
theorem parts_self {p : List α} (h : partEnd m 0 p = p.length) : PartsR m p [p] := .last p h
end
end Go.Proofs.YtbhfblogjlpnlabDoor
