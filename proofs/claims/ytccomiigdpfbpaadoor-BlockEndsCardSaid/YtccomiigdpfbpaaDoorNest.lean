/-
  Plain facts on where blocks end: a block ends behind its beginning and ahead of the lines' end; its Else lies between; a block that begins within another one ends within it; what stands behind its end plays no part. No condition.
-/
import Derived.Test.YtccomiigdpfbpaaDoorEnd2
namespace Go.Proofs.YtccomiigdpfbpaaDoor
open Go.RowKit

theorem endRun_nil (F : Lns) (n at_ k : Nat) : ∀ K o, endRun F n at_ k [] ≠ .ok K o := by
  intro K o h
  unfold endRun at h
  split at h <;> cases h

/-- One round of a run that ends well. -/
theorem endRun_cases {F : Lns} {n at_ k K : Nat} {o : Int} {st : List (Int × Int)} (h : endRun F n at_ k st = .ok K o) :
    k < n ∧ ∃ a b rest, st = (a, b) :: rest ∧ ((stepR rest a b (F.kind k) k = some [] ∧ K = k ∧ o = lastOther a b rest) ∨ ∃ x r, stepR rest a b (F.kind k) k = some (x :: r) ∧ endRun F n at_ (k + 1) (x :: r) = .ok K o) := by
  cases st with
  | nil => exact absurd h (endRun_nil F n at_ k K o)
  | cons p rest =>
    obtain ⟨a, b⟩ := p
    by_cases hk : k < n
    · refine ⟨hk, a, b, rest, rfl, ?_⟩
      cases hs : stepR rest a b (F.kind k) k with
      | none => rw [endRun_bad F n at_ k a b rest hk hs] at h; cases h
      | some r =>
        cases r with
        | nil =>
          rw [endRun_ok F n at_ k a b rest hk hs] at h
          injection h with h1 h2
          exact .inl ⟨rfl, h1.symm, h2.symm⟩
        | cons x r =>
          rw [endRun_on F n at_ k a b rest x r hk hs] at h
          exact .inr ⟨x, r, rfl, h⟩
    · rw [endRun_end F n at_ k _ hk] at h
      cases h

theorem endRun_le {F : Lns} {n at_ K : Nat} {o : Int} : ∀ (m k : Nat) (st : List (Int × Int)), n - k ≤ m → endRun F n at_ k st = .ok K o → k ≤ K ∧ K < n
  | 0, k, st, hm, h => by
    obtain ⟨hk, _⟩ := endRun_cases h
    omega
  | m + 1, k, st, hm, h => by
    obtain ⟨hk, a, b, rest, rfl, ⟨_, rfl, _⟩ | ⟨x, r, _, h2⟩⟩ := endRun_cases h
    · exact ⟨Nat.le_refl _, hk⟩
    · have := endRun_le m (k + 1) (x :: r) (by omega) h2
      exact ⟨by omega, this.2⟩

/-- The numbers of the Elses are of lines between. -/
def OthersIn (at_ k : Nat) (st : List (Int × Int)) : Prop := ∀ x ∈ st, x.2 = -1 ∨ ((at_ : Int) < x.2 ∧ x.2 < k)
theorem stepR_others {at_ k : Nat} {rest r : List (Int × Int)} {a b : Int} {kind : Nat} (hat : at_ < k) (ho : OthersIn at_ k ((a, b) :: rest)) (h : stepR rest a b kind k = some r) : OthersIn at_ (k + 1) r := by
  have hw : ∀ l : List (Int × Int), OthersIn at_ k l → OthersIn at_ (k + 1) l := fun l hl x hx => by
    rcases hl x hx with h1 | h1
    · exact .inl h1
    · exact .inr ⟨h1.1, by omega⟩
  have hr : OthersIn at_ k rest := fun x hx => ho x (List.mem_cons_of_mem _ hx)
  unfold stepR at h
  split at h
  · split at h <;> cases h
    exact hw _ hr
  · split at h
    · split at h <;> cases h
      exact hw _ hr
    · split at h
      · split at h <;> cases h
        exact hw _ hr
      · split at h
        · split at h <;> cases h
          intro x hx
          rcases List.mem_cons.1 hx with rfl | hx
          · exact .inr ⟨by simpa using hat, by simp; omega⟩
          · exact hw _ hr x hx
        · split at h <;> cases h
          · intro x hx
            rcases List.mem_cons.1 hx with rfl | hx
            · exact .inl rfl
            · exact hw _ ho x hx
          · exact hw _ ho
theorem lastOther_mem (a b : Int) (rest : List (Int × Int)) : ∃ x ∈ (a, b) :: rest, lastOther a b rest = x.2 := ⟨_, List.getLast_mem (by simp), rfl⟩

theorem endRun_other {F : Lns} {n at_ K : Nat} {o : Int} : ∀ (m k : Nat) (st : List (Int × Int)), n - k ≤ m → at_ < k → OthersIn at_ k st → endRun F n at_ k st = .ok K o → o = -1 ∨ ((at_ : Int) < o ∧ o < K)
  | 0, k, st, hm, _, _, h => by
    obtain ⟨hk, _⟩ := endRun_cases h
    omega
  | m + 1, k, st, hm, hat, ho, h => by
    obtain ⟨hk, a, b, rest, rfl, ⟨_, rfl, rfl⟩ | ⟨x, r, hs, h2⟩⟩ := endRun_cases h
    · obtain ⟨x, hx, e⟩ := lastOther_mem a b rest
      rw [e]
      exact ho x hx
    · exact endRun_other m (k + 1) (x :: r) (by omega) (by omega) (stepR_others hat ho hs) h2

/-- A run that ends well comes to each line ahead of its end. -/
theorem endRun_reach {F : Lns} {n at_ K b : Nat} {o : Int} : ∀ (m k : Nat) (st : List (Int × Int)), b - k ≤ m → k ≤ b → b < K → endRun F n at_ k st = .ok K o → ∃ st', endRun F n at_ b st' = .ok K o
  | 0, k, st, hm, hkb, _, h => by
    have : k = b := by omega
    subst this
    exact ⟨st, h⟩
  | m + 1, k, st, hm, hkb, hb, h => by
    rcases Nat.lt_or_eq_of_le hkb with hlt | rfl
    · obtain ⟨hk, a, c, rest, rfl, ⟨_, rfl, _⟩ | ⟨x, r, hs, h2⟩⟩ := endRun_cases h
      · omega
      · exact endRun_reach m (k + 1) (x :: r) (by omega) (by omega) hb h2
    · exact ⟨st, h⟩

theorem stepR_app (rest out : List (Int × Int)) (a b : Int) (kind : Nat) (i : Int) : stepR (rest ++ out) a b kind i = (stepR rest a b kind i).map (· ++ out) := by
  unfold stepR
  repeat' split
  all_goals simp

theorem endRun_nest {F : Lns} {n at_ at2 K k2 : Nat} {o o2 : Int} : ∀ (m k : Nat) (ins out : List (Int × Int)), n - k ≤ m → out ≠ [] → endRun F n at_ k (ins ++ out) = .ok K o → endRun F n at2 k ins = .ok k2 o2 → k2 < K
  | 0, k, ins, out, hm, _, h, _ => by
    obtain ⟨hk, _⟩ := endRun_cases h
    omega
  | m + 1, k, ins, out, hm, hne, h, h2 => by
    obtain ⟨hk, a, b, rest, rfl, hc⟩ := endRun_cases h2
    obtain ⟨_, a', b', rest', he, hc'⟩ := endRun_cases h
    have he2 : (a, b) :: (rest ++ out) = (a', b') :: rest' := he
    injection he2 with e1 e2
    injection e1 with e3 e4
    subst e2 e3 e4
    rw [stepR_app] at hc'
    rcases hc with ⟨hs, rfl, _⟩ | ⟨x, r, hs, h3⟩
    · rw [hs] at hc'
      rcases hc' with ⟨hs', _⟩ | ⟨x', r', hs', h3'⟩
      · simp at hs'
        exact absurd hs' hne
      · have := endRun_le (n - (k2 + 1)) (k2 + 1) (x' :: r') (Nat.le_refl _) h3'
        omega
    · rw [hs] at hc'
      rcases hc' with ⟨hs', _⟩ | ⟨x', r', hs', h3'⟩
      · simp at hs'
      · simp at hs'
        obtain ⟨rfl, rfl⟩ := hs'
        exact endRun_nest m (k + 1) (x :: r) out (by omega) hne h3' h3

theorem endRun_behind {F G : Lns} {n n' at_ at2 K : Nat} {o : Int} : ∀ (m k : Nat) (st : List (Int × Int)), n - k ≤ m → K < n' → (∀ i, i ≤ K → F.kind i = G.kind i) → endRun F n at_ k st = .ok K o → endRun G n' at2 k st = .ok K o
  | 0, k, st, hm, _, _, h => by
    obtain ⟨hk, _⟩ := endRun_cases h
    omega
  | m + 1, k, st, hm, hK, hFG, h => by
    have hle := endRun_le (n - k) k st (Nat.le_refl _) h
    obtain ⟨hk, a, b, rest, rfl, ⟨hs, rfl, rfl⟩ | ⟨x, r, hs, h2⟩⟩ := endRun_cases h
    · rw [endRun_ok G n' at2 K a b rest hK (by rw [← hFG K (Nat.le_refl _)]; exact hs)]
    · rw [endRun_on G n' at2 k a b rest x r (by omega) (by rw [← hFG k hle.1]; exact hs)]
      exact endRun_behind m (k + 1) (x :: r) (by omega) hK hFG h2

/-! The same, of End. -/
theorem endSpec_ok {F : Lns} {n K : Nat} {i o : Int} (h : endSpec F n i = .ok K o) : ∃ a : Nat, i = a ∧ a < n ∧ (F.kind a = 1 ∨ F.kind a = 3 ∨ F.kind a = 5) ∧ endRun F n a (a + 1) [((F.kind a : Int), -1)] = .ok K o := by
  unfold endSpec at h
  split at h
  · cases h
  · rename_i hi
    split at h
    · rename_i hk
      exact ⟨i.toNat, by omega, by omega, hk, h⟩
    · cases h
theorem endSpec_place {F : Lns} {n K : Nat} {i o : Int} (h : endSpec F n i = .ok K o) : 0 ≤ i ∧ i < K ∧ K < n ∧ (o = -1 ∨ (i < o ∧ o < K)) := by
  obtain ⟨a, rfl, ha, _, h2⟩ := endSpec_ok h
  have h3 := endRun_le _ _ _ (Nat.le_refl _) h2
  refine ⟨by omega, by omega, h3.2, ?_⟩
  exact endRun_other _ _ _ (Nat.le_refl _) (by omega) (fun x hx => by simp at hx; subst hx; exact .inl rfl) h2
theorem endSpec_within {F : Lns} {n K k2 : Nat} {i j o o2 : Int} (h : endSpec F n i = .ok K o) (hij : i < j) (hjK : j < K) (h2 : endSpec F n j = .ok k2 o2) : k2 < K := by
  obtain ⟨a, rfl, ha, _, h1⟩ := endSpec_ok h
  obtain ⟨b, rfl, hb, hkb, h3⟩ := endSpec_ok h2
  obtain ⟨st, h4⟩ := endRun_reach (b - (a + 1)) (a + 1) _ (Nat.le_refl _) (by omega) (by omega) h1
  obtain ⟨_, x, y, rest, rfl, hc⟩ := endRun_cases h4
  have hs : stepR rest x y (F.kind b) b = some (((F.kind b : Int), -1) :: (x, y) :: rest) := by
    unfold stepR
    rcases hkb with e | e | e <;> rw [e] <;> rfl
  rw [hs] at hc
  rcases hc with ⟨hc, _⟩ | ⟨x', r', hc, h5⟩
  · cases hc
  · injection hc with hc
    injection hc with e1 e2
    subst e1 e2
    exact endRun_nest _ (b + 1) [((F.kind b : Int), -1)] ((x, y) :: rest) (Nat.le_refl _) (by simp) h5 h3
theorem endSpec_behind {F G : Lns} {n n' K : Nat} {i o : Int} (hK : K < n') (hFG : ∀ i, i ≤ K → F.kind i = G.kind i) (h : endSpec F n i = .ok K o) : endSpec G n' i = .ok K o := by
  have hp := endSpec_place h
  obtain ⟨a, rfl, ha, hk, h1⟩ := endSpec_ok h
  have e := hFG a (by omega)
  have h2 := endRun_behind (at2 := a) _ _ _ (Nat.le_refl _) hK hFG h1
  unfold endSpec
  rw [if_neg (by omega), Int.toNat_natCast, ← e, if_pos hk]
  exact h2
end Go.Proofs.YtccomiigdpfbpaaDoor
