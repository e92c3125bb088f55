/-
  What a head's end has: few parameters, of few tokens; or a code of three.
-/
import Derived.Test.YtbhfblogjlpnlabDoorMacHSpec
namespace Go.Proofs.YtbhfblogjlpnlabDoor

theorem withLast_small {ps : List HPar} {d : List Tk6} {n : Nat} (h : ∀ p ∈ ps, p.dflt.length ≤ n) (hd : d.length ≤ n) : ∀ p ∈ withLast ps d, p.dflt.length ≤ n := by
  intro p hp
  unfold withLast at hp
  split at hp
  · exact h p hp
  · rcases List.mem_append.1 hp with hp | hp
    · exact h p (List.dropLast_subset _ hp)
    · rw [List.mem_singleton.1 hp]
      exact hd
theorem hstep_small {ts : List Tk6} {k : HKind} {s s' : HState} {k' : Option HKind} (h : hstep ts k s = .inl (k', s')) (hs : ∀ p ∈ s.ps, p.dflt.length ≤ ts.length) : ∀ p ∈ s'.ps, p.dflt.length ≤ ts.length := by
  cases k with
  | name =>
    simp only [hstep, nameStep] at h
    split at h
    · cases h
    · split at h
      · split at h
        · cases h
        · injection h with h
          injection h with _ h
          rw [← h]
          exact hs
      · cases h
  | param =>
    simp only [hstep, paramStep] at h
    split at h
    · cases h
    · split at h
      · split at h
        · cases h
        · injection h with h
          injection h with _ h
          rw [← h]
          intro p hp
          rcases List.mem_append.1 hp with hp | hp
          · exact hs p hp
          · rw [List.mem_singleton.1 hp]
            exact Nat.zero_le _
      · cases h
  | behind =>
    simp only [hstep, behindStep] at h
    split at h
    · cases h
    · split at h
      · injection h with h
        injection h with _ h
        rw [← h]
        exact hs
      · split at h
        · injection h with h
          injection h with _ h
          rw [← h]
          exact hs
        · cases h
  | value =>
    simp only [hstep, valueStep] at h
    injection h with h
    injection h with _ h
    rw [← h]
    exact withLast_small hs (by rw [List.length_take, List.length_drop]; omega)
theorem hstep_code {ts : List Tk6} {k : HKind} {s : HState} {e : Nat × Int} (h : hstep ts k s = .inr e) : 1 ≤ e.2 ∧ e.2 ≤ 16 := by
  cases k with
  | name =>
    simp only [hstep, nameStep] at h
    split at h
    · injection h with h
      rw [← h]
      exact ⟨by simp, by simp⟩
    · split at h
      · split at h
        · injection h with h
          rw [← h]
          exact ⟨by simp, by simp⟩
        · cases h
      · injection h with h
        rw [← h]
        exact ⟨by simp, by simp⟩
  | param =>
    simp only [hstep, paramStep] at h
    split at h
    · injection h with h
      rw [← h]
      exact ⟨by simp, by simp⟩
    · split at h
      · split at h
        · injection h with h
          rw [← h]
          exact ⟨by simp, by simp⟩
        · cases h
      · injection h with h
        rw [← h]
        exact ⟨by simp, by simp⟩
  | behind =>
    simp only [hstep, behindStep] at h
    split at h
    · injection h with h
      rw [← h]
      exact ⟨by simp, by simp⟩
    · split at h
      · cases h
      · split at h
        · cases h
        · injection h with h
          rw [← h]
          exact ⟨by simp, by simp⟩
  | value =>
    simp only [hstep, valueStep] at h
    cases h
theorem hrun_end {ts : List Tk6} {k : Option HKind} {s : HState} {r : HState ⊕ (Nat × Int)} (h : HRun ts k s r) (hf : HFit ts k s) (hs : ∀ p ∈ s.ps, p.dflt.length ≤ ts.length) : (∀ e, r = .inl e → e.ps.length ≤ ts.length + 1 ∧ ∀ p ∈ e.ps, p.dflt.length ≤ ts.length) ∧ ∀ i c, r = .inr (i, c) → 1 ≤ c ∧ c ≤ 16 := by
  induction h with
  | done s =>
    refine ⟨fun e he => ?_, fun i c hc => by cases hc⟩
    injection he with he
    subst he
    exact ⟨Nat.le_trans hf.few hf.le1, hs⟩
  | bad k s e h =>
    refine ⟨fun e he => (by cases he), fun i c hc => ?_⟩
    injection hc with hc
    subst hc
    exact hstep_code h
  | go k s s' k' r h hr ih => exact ih (hstep_fit hf h).1 (hstep_small h hs)
end Go.Proofs.YtbhfblogjlpnlabDoor
