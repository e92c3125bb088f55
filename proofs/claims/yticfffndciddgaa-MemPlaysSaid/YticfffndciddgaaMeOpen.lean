/-
  A slice of cells, opened out of its reading as data.
-/
import Derived.Test.YticfffndciddgaaMeCells
import Derived.Deep.Slices
import Derived.Deep.Fields
import Derived.ChangeSame
import Derived.ChangeVars
import Derived.RowKit
import Derived.RowKitTokens
namespace Go.Proofs.Yticfffndciddgaa
open Go.ChangeShapes Go.WideShapes Go.RowKit Go.Deep

section
variable {H : Type} {enc : TypeId × Value → H} {P : Program} {w : World} {base : Nat} {spare : Nat → Bool} {held : Bool}
theorem open_slice_fields2 {t e : TypeId} {fs : Array Field} {fuel : Nat} {cs : List Value} {x : DataW H × List MemPlace} (ht : P.underlying t = some (.slice e)) (he : P.underlying e = some (.struct fs))
    (hone : oneCellFields P fs = true) (hC : P.cellsOf e = fs.size) (h : DataW.trod enc P w base spare held fuel t cs = some x) :
    cs = [.slice none 0 0] ∨
    ∃ (a : Addr) (len cap : Nat), cs = [.slice (some a) len cap] ∧ len ≤ cap ∧ cap ≤ maxLen ∧
      ∀ i, i < len → ∃ (n : Nat), ∀ (j : Nat) (f : Field), fs[j]? = some f → ∃ (v : Value) (y : DataW H × List MemPlace), w.cell? (a.add (i * fs.size + j)) = some v ∧ DataW.trod enc P w base spare held n f.type [v] = some y := by
  rcases open_slice ht h with h0 | ⟨a, len, cap, m, n, D, Pl, hcs, hb, hl, hm, hmm, hx, hi⟩
  · exact .inl h0.1
  · refine .inr ⟨a, len, cap, hcs, hl, hm, fun i hil => ?_⟩
    have him : i < m := by rw [hmm]; split <;> omega
    obtain ⟨cs', hc, ht'⟩ := hi i him
    rw [hC] at hc
    obtain ⟨ys, n', hn', hy, hlen, hyl, hf⟩ := DataW.trod_struct he ht'
    obtain ⟨_, hcl, hat⟩ := World.cells?_some hc
    refine ⟨n', fun j f hj => ?_⟩
    obtain ⟨ho, hk⟩ := hone_of hone j f hj
    have hjl : j < fs.size := (Array.getElem?_eq_some_iff.1 hj).1
    have hcell := hat j hjl
    have hv : cs'[j]? = some (cs'[j]'(by omega)) := List.getElem?_eq_getElem (by omega)
    have h1 := hf j f hj
    rw [ho, hk] at h1
    have hone' : (cs'.drop j).take 1 = [cs'[j]'(by omega)] := by
      rw [List.drop_eq_getElem_cons (by omega)]
      rfl
    rw [hone'] at h1
    have hys : ys[j]? = some (ys[j]'(by omega)) := List.getElem?_eq_getElem (by omega)
    refine ⟨_, _, ?_, h1.trans hys⟩
    rw [← Go.Deep.add_add, hcell, hv]
end

theorem Try.cellsCell : Try.prog.cellsOf 47 = 2 := by kernel_rfl
theorem Try.cellStruct : ∃ fs, Try.prog.underlying 47 = some (.struct fs) ∧ oneCellFields Try.prog fs = true ∧ fs.size = 2 ∧ (fs.map (·.type)) = #[24, 5] := ⟨_, Try.underlying47, by kernel_rfl, by kernel_rfl, by kernel_rfl⟩

theorem list_of_lt2 {α : Type} {n : Nat} {q : Nat → α → Prop} (h : ∀ i, i < n → ∃ t, q i t) : ∃ ts : List α, ts.length = n ∧ ∀ i t, ts[i]? = some t → q i t := by
  induction n with
  | zero => exact ⟨[], rfl, fun i t h => by simp at h⟩
  | succ n ih =>
    obtain ⟨ts, hl, hq⟩ := ih (fun i hi => h i (by omega))
    obtain ⟨t, ht⟩ := h n (by omega)
    refine ⟨ts ++ [t], by simp [hl], fun i s hs => ?_⟩
    rcases Nat.lt_or_ge i n with hi | hi
    · rw [List.getElem?_append_left (by omega)] at hs
      exact hq i s hs
    · have hin : i < n + 1 := by have := (List.getElem?_eq_some_iff.1 hs).1; simp [hl] at this; exact this
      obtain rfl : i = n := by omega
      rw [← hl] at hs
      simp at hs
      subst hs
      exact ht

set_option maxRecDepth 100000 in
/-- A slice of cells, opened. -/
theorem open_cells {H : Type} {enc : TypeId × Value → H} {W : World} {base b0 : Nat} {held : Bool} {fuel : Nat} {v : Value} {x : DataW H × List MemPlace} (hok : Value.okWide Try.prog W .any base 22 v)
    (h : DataW.trod enc Try.prog W b0 (fun _ => true) held fuel 22 [v] = some x) : ∃ A n c l, v = .slice A n c ∧ List.length l = n ∧ n ≤ c ∧ c ≤ maxLen ∧ CellsAt W A l := by
  obtain ⟨fs, hu, hone, hsz, hty⟩ := Try.cellStruct
  rcases open_slice_fields2 Try.underlying22 hu hone (by rw [Try.cellsCell, hsz]) h with hcs | ⟨a, len, cap, hcs, hl, hm, hi⟩
  · exact ⟨none, 0, 0, [], by simpa using hcs, rfl, Nat.le_refl _, by simp [maxLen], ⟨fun i x hx => by simp at hx, fun x hx => by simp at hx⟩⟩
  · have hv : v = .slice (some a) len cap := by simpa using hcs
    subst hv
    have hhas : a.spot = none ∧ a.block < W.heap.size := by
      have h1 : Cell.ok Try.prog W .any base 22 (.slice (some a) len cap) := by
        have h2 := hok
        simp only [Value.okWide, Try.underlying22, Cell.okWide] at h2
        exact h2
      unfold Cell.ok at h1
      rw [Try.underlying22] at h1
      obtain ⟨_, _, _, hs, row, cells, hsh, _⟩ := h1
      refine ⟨hs, ?_⟩
      unfold World.shape? at hsh
      rcases Nat.lt_or_ge a.block W.heap.size with h2 | h2
      · exact h2
      · rw [Array.getElem?_eq_none h2] at hsh
        cases hsh
    obtain ⟨b, o, spot⟩ := a
    obtain ⟨hs, hlt⟩ := hhas
    simp only at hs hlt
    subst hs
    have hfield : ∀ (j t : Nat), (#[24, 5] : Array Nat)[j]? = some t → ∃ f : Field, fs[j]? = some f ∧ f.type = t := by
      intro j t hj
      rw [← hty] at hj
      simpa using hj
    have hcell : ∀ i j, (⟨b, o, none⟩ : Addr).add (i * fs.size + j) = ⟨b, o + i * 2 + j, none⟩ := by
      intro i j
      rw [hsz]
      unfold Addr.add
      split <;> simp_all [Nat.add_assoc]
    have hone_ : ∀ i, i < len → ∃ t : Int × Int, W.cell? ⟨b, o + i * 2, none⟩ = some (.int .u32 t.1) ∧ W.cell? ⟨b, o + i * 2 + 1, none⟩ = some (.int .u8 t.2) ∧ 0 ≤ t.1 ∧ t.1 ≤ 4294967295 ∧ 0 ≤ t.2 ∧ t.2 ≤ 255 := by
      intro i hil
      obtain ⟨n, hf⟩ := hi i hil
      obtain ⟨f0, e0, t0⟩ := hfield 0 24 rfl
      obtain ⟨f1, e1, t1⟩ := hfield 1 5 rfl
      obtain ⟨v0, y0, c0, r0⟩ := hf 0 f0 e0
      obtain ⟨v1, y1, c1, r1⟩ := hf 1 f1 e1
      rw [t0] at r0
      rw [t1] at r1
      obtain ⟨k, h0, _, z0⟩ := DataW.trod_int Try.underlying24 r0
      obtain ⟨l, h1, _, z1⟩ := DataW.trod_int Try.underlying5 r1
      simp at h0 h1
      subst h0 h1
      rw [hcell] at c0 c1
      obtain ⟨a1, a2⟩ := u32_wf z0
      obtain ⟨a3, a4⟩ := u8_wf z1
      exact ⟨(k, l), c0, c1, a1, a2, a3, a4⟩
    obtain ⟨ts, hlen, hq⟩ := list_of_lt2 hone_
    refine ⟨some ⟨b, o, none⟩, len, cap, ts, rfl, hlen, hl, hm, ⟨fun i x hx => ⟨b, o, rfl, hlt, (hq i x hx).1, (hq i x hx).2.1⟩, fun x hx => ?_⟩⟩
    obtain ⟨i, hi⟩ := List.mem_iff_getElem?.1 hx
    exact (hq i x hi).2.2
end Go.Proofs.Yticfffndciddgaa
