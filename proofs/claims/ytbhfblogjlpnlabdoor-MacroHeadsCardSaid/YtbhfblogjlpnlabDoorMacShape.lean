/-
  Rows of tokens, and parameters, wherever they lie. No program's contract.
-/
import Derived.Test.YtbhfblogjlpnlabDoorMacHSpec
import Derived.Test.YtbhfblogjlpnlabDoorMacPartLaw
namespace Go.Proofs.YtbhfblogjlpnlabDoor
open Go.RowKit

theorem addr0 (g j : Nat) : (⟨g, 0, none⟩ : Addr).add j = ⟨g, j, none⟩ := by unfold Addr.add; split <;> simp_all

/-- A slice of rows of tokens. -/
def TokRows (w : World) (v : Value) (pss : List (List Tk6)) : Prop := (∃ (A : Option Addr) (c : Nat), v = .slice A 0 c ∧ c ≤ maxLen ∧ pss = []) ∨ ∃ (b o c : Nat), v = .slice (some ⟨b, o, none⟩) pss.length c ∧ pss.length ≤ c ∧ c ≤ maxLen ∧ b < w.heap.size ∧ ∀ (i : Nat) (ps : List Tk6), pss[i]? = some ps → ∃ d, w.cell? ⟨b, o + i, none⟩ = some d ∧ Toks w d ps
theorem TokRows.below {w w' : World} {v : Value} {pss : List (List Tk6)} (h : TokRows w v pss) (hb : Below w.heap.size w w') : TokRows w' v pss :=
  h.imp id fun ⟨b, o, c, h1, h2, h3, h4, h5⟩ => ⟨b, o, c, h1, h2, h3, Nat.lt_of_lt_of_le h4 hb.size, fun i ps hi => by
    obtain ⟨d, h6, h7⟩ := h5 i ps hi
    exact ⟨d, (hb.cell (p := ⟨b, o + i, none⟩) h4).trans h6, h7.below hb⟩⟩
theorem TokRows.form {w : World} {v : Value} {pss : List (List Tk6)} (h : TokRows w v pss) : ∃ A c, v = .slice A pss.length c ∧ pss.length ≤ c ∧ c ≤ maxLen ∧ ∀ (i : Nat) (ps : List Tk6), pss[i]? = some ps → ∃ b o d, A = some ⟨b, o, none⟩ ∧ Toks w d ps ∧ ∀ W, Below w.heap.size w W → W.cell? ⟨b, o + i, none⟩ = some d := by
  rcases h with ⟨A, c, rfl, hc, rfl⟩ | ⟨b, o, c, rfl, h2, h3, h4, h5⟩
  · exact ⟨A, c, rfl, Nat.zero_le _, hc, fun i ps h => by simp at h⟩
  · refine ⟨_, c, rfl, h2, h3, fun i ps hi => ?_⟩
    obtain ⟨d, h6, h7⟩ := h5 i ps hi
    exact ⟨b, o, d, rfl, h7, fun W hW => (hW.cell (p := ⟨b, o + i, none⟩) h4).trans h6⟩
theorem tokRows_of_own {w : World} {base : Nat} {v : Value} {us : List Value} {pss : List (List Tk6)} (h : w.ownsRow base 30 1 v pss.length us) (hr : RowsAt w base us pss) : TokRows w v pss := by
  rcases h.2 with ⟨rfl, h0⟩ | ⟨g, cap, cur, rfl, hg, hh, hc, hm, _, _⟩
  · exact .inl ⟨none, 0, rfl, Nat.zero_le _, List.eq_nil_of_length_eq_zero h0⟩
  · refine .inr ⟨g, 0, cap, rfl, hc, hm, (Array.getElem?_eq_some_iff.1 hh).1, fun i ps hi => ?_⟩
    obtain ⟨u, hu, ho⟩ := hr.2 i ps hi
    have := h.cells (g := g) rfl i u hu
    rw [addr0] at this
    rw [Nat.zero_add]
    exact ⟨u, this, toks_of_own ho rfl⟩

/-- A slice of parameters. -/
def Pars (w : World) (v : Value) (ps : List HPar) : Prop := (∃ (A : Option Addr) (c : Nat), v = .slice A 0 c ∧ c ≤ maxLen ∧ ps = []) ∨ ∃ (b o c : Nat), v = .slice (some ⟨b, o, none⟩) ps.length c ∧ ps.length ≤ c ∧ c ≤ maxLen ∧ b < w.heap.size ∧ ∀ (i : Nat) (p : HPar), ps[i]? = some p → ∃ d, w.cell? ⟨b, o + i * 3, none⟩ = some (.string p.name) ∧ w.cell? ⟨b, o + i * 3 + 1, none⟩ = some (.bool p.has) ∧ w.cell? ⟨b, o + i * 3 + 2, none⟩ = some d ∧ Toks w d p.dflt
theorem Pars.below {w w' : World} {v : Value} {ps : List HPar} (h : Pars w v ps) (hb : Below w.heap.size w w') : Pars w' v ps :=
  h.imp id fun ⟨b, o, c, h1, h2, h3, h4, h5⟩ => ⟨b, o, c, h1, h2, h3, Nat.lt_of_lt_of_le h4 hb.size, fun i p hi => by
    obtain ⟨d, h6, h7, h8, h9⟩ := h5 i p hi
    exact ⟨d, (hb.cell (p := ⟨b, o + i * 3, none⟩) h4).trans h6, (hb.cell (p := ⟨b, o + i * 3 + 1, none⟩) h4).trans h7, (hb.cell (p := ⟨b, o + i * 3 + 2, none⟩) h4).trans h8, h9.below hb⟩⟩
theorem Pars.form {w : World} {v : Value} {ps : List HPar} (h : Pars w v ps) : ∃ A c, v = .slice A ps.length c ∧ ps.length ≤ c ∧ c ≤ maxLen ∧ ∀ (i : Nat) (p : HPar), ps[i]? = some p → ∃ b o d, A = some ⟨b, o, none⟩ ∧ Toks w d p.dflt ∧ ∀ W, Below w.heap.size w W → W.cell? ⟨b, o + i * 3, none⟩ = some (.string p.name) ∧ W.cell? ⟨b, o + i * 3 + 1, none⟩ = some (.bool p.has) ∧ W.cell? ⟨b, o + i * 3 + 2, none⟩ = some d := by
  rcases h with ⟨A, c, rfl, hc, rfl⟩ | ⟨b, o, c, rfl, h2, h3, h4, h5⟩
  · exact ⟨A, c, rfl, Nat.zero_le _, hc, fun i ps h => by simp at h⟩
  · refine ⟨_, c, rfl, h2, h3, fun i ps hi => ?_⟩
    obtain ⟨d, h6, h7, h8, h9⟩ := h5 i ps hi
    exact ⟨b, o, d, rfl, h9, fun W hW => ⟨(hW.cell (p := ⟨b, o + i * 3, none⟩) h4).trans h6, (hW.cell (p := ⟨b, o + i * 3 + 1, none⟩) h4).trans h7, (hW.cell (p := ⟨b, o + i * 3 + 2, none⟩) h4).trans h8⟩⟩

/-- Parameters, and the values of their defaults. -/
def parCells (qs : List (HPar × Value)) : List Value := qs.flatMap fun q => [.string q.1.name, .bool q.1.has, q.2]
theorem parCells_len (qs : List (HPar × Value)) : (parCells qs).length = qs.length * 3 := by
  induction qs with
  | nil => rfl
  | cons t ps ih =>
    have h : parCells (t :: ps) = [.string t.1.name, .bool t.1.has, t.2] ++ parCells ps := rfl
    rw [h, List.length_append, ih, List.length_cons]
    simp
    omega
theorem parCells_app (ps qs : List (HPar × Value)) : parCells (ps ++ qs) = parCells ps ++ parCells qs := by simp [parCells]
theorem parCells_at (qs : List (HPar × Value)) : ∀ (j : Nat) (q : HPar × Value) (t : Nat), qs[j]? = some q → t < 3 → (parCells qs)[j * 3 + t]? = [Value.string q.1.name, .bool q.1.has, q.2][t]? := by
  induction qs with
  | nil => intro j p t h; simp at h
  | cons q ps ih =>
    intro j p t h ht
    have hc : parCells (q :: ps) = [.string q.1.name, .bool q.1.has, q.2] ++ parCells ps := rfl
    have hq : [Value.string q.1.name, .bool q.1.has, q.2].length = 3 := rfl
    cases j with
    | zero =>
      simp at h
      subst h
      rw [hc, List.getElem?_append_left (by omega), Nat.zero_mul, Nat.zero_add]
    | succ j =>
      simp at h
      rw [hc, List.getElem?_append_right (by omega), hq]
      have := ih j p t h ht
      rw [← this]
      congr 1
      omega
theorem pars_of_own {w : World} {base n : Nat} {e : TypeId} {v : Value} {qs : List (HPar × Value)} (h : w.ownsRow base e 3 v n (parCells qs)) (hn : n = qs.length) (hq : ∀ q ∈ qs, Toks w q.2 q.1.dflt) : Pars w v (qs.map Prod.fst) := by
  subst hn
  rcases h.2 with ⟨rfl, h0⟩ | ⟨g, cap, cur, rfl, hg, hh, hc, hm, _, _⟩
  · exact .inl ⟨none, 0, rfl, Nat.zero_le _, by rw [List.eq_nil_of_length_eq_zero h0]; rfl⟩
  · refine .inr ⟨g, 0, cap, by rw [List.length_map], by rw [List.length_map]; exact hc, hm, (Array.getElem?_eq_some_iff.1 hh).1, fun i p hi => ?_⟩
    rw [List.getElem?_map] at hi
    obtain ⟨q, hqi, rfl⟩ := Option.map_eq_some_iff.1 hi
    have hcell : ∀ t u, t < 3 → [Value.string q.1.name, .bool q.1.has, q.2][t]? = some u → w.cell? ⟨g, i * 3 + t, none⟩ = some u := by
      intro t u ht hu
      have := h.cells (g := g) rfl (i * 3 + t) u ((parCells_at qs i q t hqi ht).trans hu)
      rwa [addr0] at this
    rw [Nat.zero_add]
    exact ⟨q.2, hcell 0 _ (by decide) rfl, hcell 1 _ (by decide) rfl, hcell 2 _ (by decide) rfl, hq q (List.mem_of_getElem? hqi)⟩
end Go.Proofs.YtbhfblogjlpnlabDoor
