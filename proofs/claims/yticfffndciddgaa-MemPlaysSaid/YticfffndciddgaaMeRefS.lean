/-
  Plain facts on the reference's memory, a list of cells of which no address stands twice: what it holds, a byte put, its cells in order. No condition.
-/
import Derived.Test.YticfffndciddgaaMeFacts
namespace Go.Proofs.Yticfffndciddgaa
open Go.RowKit Go.Maps

/-- The byte at an address. -/
def lookF : List (Int × Int) → Int → Int
  | [], _ => 0
  | x :: l, a => if x.1 = a then x.2 else lookF l a
/-- A byte put. -/
def putL : List (Int × Int) → Int → Int → List (Int × Int)
  | [], a, v => [(a, v)]
  | x :: l, a, v => if x.1 = a then (a, v) :: l else x :: putL l a v

theorem look_put (a v x : Int) : ∀ l, lookF (putL l a v) x = upd (lookF l) a v x
  | [] => by
    simp only [putL, lookF, upd]
    by_cases h : a = x
    · simp [h]
    · have h2 : ¬ x = a := fun q => h q.symm
      simp [h, h2]
  | y :: l => by
    have ih := look_put a v x l
    simp only [upd] at ih ⊢
    by_cases h : y.1 = a
    · simp only [putL, if_pos h, lookF]
      by_cases hx : x = a
      · simp [hx]
      · have h2 : ¬ a = x := fun q => hx q.symm
        simp [hx, h2, h]
    · simp only [putL, if_neg h, lookF, ih]
      by_cases hx : x = a
      · subst hx
        simp [h]
      · simp [hx]
theorem put_mem (a v : Int) : ∀ l, ∀ x ∈ putL l a v, x = (a, v) ∨ x ∈ l
  | [], x, h => by simpa [putL] using h
  | y :: l, x, h => by
    by_cases q : y.1 = a
    · simp only [putL, if_pos q] at h
      rcases List.mem_cons.1 h with h | h
      · exact .inl h
      · exact .inr (List.mem_cons_of_mem _ h)
    · simp only [putL, if_neg q] at h
      rcases List.mem_cons.1 h with h | h
      · exact .inr (by simp [h])
      · rcases put_mem a v l x h with h | h
        · exact .inl h
        · exact .inr (List.mem_cons_of_mem _ h)
theorem put_nodup (a v : Int) : ∀ l : List (Int × Int), (l.map (·.1)).Nodup → ((putL l a v).map (·.1)).Nodup
  | [], _ => by simp [putL]
  | y :: l, h => by
    simp only [List.map_cons, List.nodup_cons] at h
    by_cases q : y.1 = a
    · simp only [putL, if_pos q, List.map_cons, List.nodup_cons]
      exact ⟨by rw [← q]; exact h.1, h.2⟩
    · simp only [putL, if_neg q, List.map_cons, List.nodup_cons]
      refine ⟨fun k => ?_, put_nodup a v l h.2⟩
      obtain ⟨z, hz, e⟩ := List.mem_map.1 k
      rcases put_mem a v l z hz with r | r
      · subst r; exact q e.symm
      · exact h.1 (List.mem_map.2 ⟨z, r, e⟩)
theorem put_length (a v : Int) : ∀ l, l.length ≤ (putL l a v).length ∧ (putL l a v).length ≤ l.length + 1
  | [] => by simp [putL]
  | y :: l => by
    have := put_length a v l
    simp only [putL]
    split <;> simp <;> omega
/-- Where the first cell of the address stands, its byte is put. -/
theorem put_at (a v : Int) : ∀ (l : List (Int × Int)) (i : Nat) (x : Int × Int), l[i]? = some x → x.1 = a → (∀ j y, j < i → l[j]? = some y → y.1 ≠ a) → putL l a v = l.set i (a, v)
  | [], i, x, h, _, _ => by simp at h
  | y :: l, 0, x, h, hx, _ => by
    have : y = x := by simpa using h
    subst this
    simp [putL, hx]
  | y :: l, i + 1, x, h, hx, hn => by
    have h0 := hn 0 y (by omega) rfl
    simp only [putL, if_neg h0, List.set_cons_succ]
    rw [put_at a v l i x (by simpa using h) hx fun j z hj hz => hn (j + 1) z (by omega) (by simpa using hz)]
/-- Where none does, a cell is put behind. -/
theorem put_none (a v : Int) : ∀ (l : List (Int × Int)), (∀ y ∈ l, y.1 ≠ a) → putL l a v = l ++ [(a, v)]
  | [], _ => rfl
  | y :: l, h => by
    simp only [putL, if_neg (h y (by simp)), List.cons_append]
    rw [put_none a v l fun z hz => h z (List.mem_cons_of_mem _ hz)]
theorem look_at (a : Int) : ∀ (l : List (Int × Int)) (i : Nat) (x : Int × Int), l[i]? = some x → x.1 = a → (∀ j y, j < i → l[j]? = some y → y.1 ≠ a) → lookF l a = x.2
  | [], i, x, h, _, _ => by simp at h
  | y :: l, 0, x, h, hx, _ => by
    have : y = x := by simpa using h
    subst this
    simp [lookF, hx]
  | y :: l, i + 1, x, h, hx, hn => by
    have h0 := hn 0 y (by omega) rfl
    simp only [lookF, if_neg h0]
    exact look_at a l i x (by simpa using h) hx fun j z hj hz => hn (j + 1) z (by omega) (by simpa using hz)
theorem look_none (a : Int) : ∀ (l : List (Int × Int)), (∀ y ∈ l, y.1 ≠ a) → lookF l a = 0
  | [], _ => rfl
  | y :: l, h => by
    simp only [lookF, if_neg (h y (by simp))]
    exact look_none a l fun z hz => h z (List.mem_cons_of_mem _ hz)
theorem look_mem : ∀ (l : List (Int × Int)) (x : Int × Int), (l.map (·.1)).Nodup → x ∈ l → lookF l x.1 = x.2
  | [], x, _, h => by simp at h
  | y :: l, x, hd, h => by
    simp only [List.map_cons, List.nodup_cons] at hd
    rcases List.mem_cons.1 h with q | q
    · subst q; simp [lookF]
    · have : y.1 ≠ x.1 := fun e => hd.1 (List.mem_map.2 ⟨x, q, e.symm⟩)
      simp only [lookF, if_neg this]
      exact look_mem l x hd.2 q

/-- A cell put in its place keeps the order. -/
theorem rise_ins {l : List (Int × Int)} {x : Int × Int} {k : Nat} (h : l.Pairwise (fun x y => x.1 < y.1)) (h1 : ∀ y ∈ l.take k, y.1 < x.1) (h2 : ∀ y ∈ l.drop k, x.1 < y.1) :
    (l.take k ++ x :: l.drop k).Pairwise (fun x y => x.1 < y.1) := by
  have h3 := h
  rw [← List.take_append_drop k l, List.pairwise_append] at h3
  rw [List.pairwise_append, List.pairwise_cons]
  refine ⟨h3.1, ⟨h2, h3.2.1⟩, fun y hy z hz => ?_⟩
  rcases List.mem_cons.1 hz with q | q
  · subst q; exact h1 y hy
  · exact h3.2.2 y hy z q
/-- All cells but those of the byte 0, in order, are the memory's list. -/
theorem listed_look {l out : List (Int × Int)} (hd : (l.map (·.1)).Nodup) (hok : ∀ x ∈ l, 0 ≤ x.1 ∧ x.1 ≤ 4294967295 ∧ 0 ≤ x.2 ∧ x.2 ≤ 255) (hr : out.Pairwise (fun x y => x.1 < y.1)) (hm : ∀ x, x ∈ out ↔ x ∈ l ∧ x.2 ≠ 0) : Listed (lookF l) out := by
  refine ⟨hr, fun x => (hm x).trans ?_⟩
  constructor
  · rintro ⟨h1, h2⟩
    obtain ⟨a, b, _, _⟩ := hok x h1
    exact ⟨a, b, (look_mem l x hd h1).symm, h2⟩
  · rintro ⟨_, _, h3, h4⟩
    refine ⟨?_, h4⟩
    by_cases hx : ∀ y ∈ l, y.1 ≠ x.1
    · rw [look_none x.1 l hx] at h3
      exact absurd h3 h4
    · obtain ⟨y, hy, e⟩ : ∃ y ∈ l, y.1 = x.1 := Classical.byContradiction fun q => hx fun y hy e => q ⟨y, hy, e⟩
      have h5 := look_mem l y hd hy
      rw [e] at h5
      have : x = y := Prod.ext e.symm (h3.trans h5)
      exact this ▸ hy
end Go.Proofs.Yticfffndciddgaa
