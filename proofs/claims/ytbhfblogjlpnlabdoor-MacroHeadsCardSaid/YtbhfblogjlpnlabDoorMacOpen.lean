/-
  A slice of tokens, opened out of its reading as data.
-/
import Derived.Test.YtbhfblogjlpnlabDoorMacTok
import Derived.Deep.Slices
import Derived.Deep.Fields
import Derived.ChangeSame
import Derived.ChangeVars
import Derived.RowKit
import Derived.RowKitTokens
namespace Go.Proofs.YtbhfblogjlpnlabDoor
open Go.ChangeShapes Go.WideShapes Go.RowKit Go.Deep

section
variable {H : Type} {enc : TypeId × Value → H} {P : Program} {w : World} {base : Nat} {spare : Nat → Bool} {held : Bool}
theorem open_slice_fields6 {t e : TypeId} {fs : Array Field} {fuel : Nat} {cs : List Value} {x : DataW H × List MemPlace} (ht : P.underlying t = some (.slice e)) (he : P.underlying e = some (.struct fs))
    (hone : oneCellFields P fs = true) (hC : P.cellsOf e = fs.size) (h : DataW.trod enc P w base spare held fuel t cs = some x) :
    cs = [.slice none 0 0] ∨
    ∃ (a : Addr) (len cap : Nat), cs = [.slice (some a) len cap] ∧ len ≤ cap ∧ cap ≤ maxLen ∧
      ∀ i, i < len → ∃ (n : Nat), ∀ (j : Nat) (f : Field), fs[j]? = some f → ∃ (v : Value) (y : DataW H × List MemPlace), w.cell? (a.add (i * fs.size + j)) = some v ∧ DataW.trod enc P w base spare held n f.type [v] = some y := by
  rcases open_slice ht h with h0 | ⟨a, len, cap, m, n, D, Pl, hcs, hb, hl, hm, hmm, hx, hi⟩
  · exact .inl h0.1
  · refine .inr ⟨a, len, cap, hcs, hl, hm, fun i hil => ?_⟩
    have him : i < m := by rw [hmm]; split <;> omega
    obtain ⟨cs', hc, ht'⟩ := hi i him
    rw [hC] at hc
    obtain ⟨ys, n', hn', hy, hlen, hyl, hf⟩ := DataW.trod_struct he ht'
    obtain ⟨_, hcl, hat⟩ := World.cells?_some hc
    refine ⟨n', fun j f hj => ?_⟩
    obtain ⟨ho, hk⟩ := hone_of hone j f hj
    have hjl : j < fs.size := (Array.getElem?_eq_some_iff.1 hj).1
    have hcell := hat j hjl
    have hv : cs'[j]? = some (cs'[j]'(by omega)) := List.getElem?_eq_getElem (by omega)
    have h1 := hf j f hj
    rw [ho, hk] at h1
    have hone' : (cs'.drop j).take 1 = [cs'[j]'(by omega)] := by
      rw [List.drop_eq_getElem_cons (by omega)]
      rfl
    rw [hone'] at h1
    have hys : ys[j]? = some (ys[j]'(by omega)) := List.getElem?_eq_getElem (by omega)
    refine ⟨_, _, ?_, h1.trans hys⟩
    rw [← Go.Deep.add_add, hcell, hv]
end

theorem Tryd.cellsTok : Tryd.prog.cellsOf 56 = 6 := by kernel_rfl
theorem Tryd.tokStruct : ∃ fs, Tryd.prog.underlying 56 = some (.struct fs) ∧ oneCellFields Tryd.prog fs = true ∧ fs.size = 6 ∧ (fs.map (·.type)) = #[3, 3, 3, 9, 35, 3] := ⟨_, Tryd.underlying56, by kernel_rfl, by kernel_rfl, by kernel_rfl⟩

theorem list_of_lt {α : Type} {n : Nat} {q : Nat → α → Prop} (h : ∀ i, i < n → ∃ t, q i t) : ∃ ts : List α, ts.length = n ∧ ∀ i t, ts[i]? = some t → q i t := by
  induction n with
  | zero => exact ⟨[], rfl, fun i t h => by simp at h⟩
  | succ n ih =>
    obtain ⟨ts, hl, hq⟩ := ih (fun i hi => h i (by omega))
    obtain ⟨t, ht⟩ := h n (by omega)
    refine ⟨ts ++ [t], by simp [hl], fun i s hs => ?_⟩
    rcases Nat.lt_or_ge i n with hi | hi
    · rw [List.getElem?_append_left (by omega)] at hs
      exact hq i s hs
    · have hin : i < n + 1 := by have := (List.getElem?_eq_some_iff.1 hs).1; simp [hl] at this; exact this
      obtain rfl : i = n := by omega
      rw [← hl] at hs
      simp at hs
      subst hs
      exact ht

set_option maxRecDepth 100000 in
/-- A slice of tokens, opened. -/
theorem open_tk {H : Type} {enc : TypeId × Value → H} {W : World} {base b0 : Nat} {held : Bool} {fuel : Nat} {v : Value} {x : DataW H × List MemPlace} (hok : Value.okWide Tryd.prog W .any base 30 v)
    (h : DataW.trod enc Tryd.prog W b0 (fun _ => true) held fuel 30 [v] = some x) : ∃ ts, Toks W v ts := by
  obtain ⟨fs, hu, hone, hsz, hty⟩ := Tryd.tokStruct
  rcases open_slice_fields6 Tryd.underlying30 hu hone (by rw [Tryd.cellsTok, hsz]) h with hcs | ⟨a, len, cap, hcs, hl, hm, hi⟩
  · exact ⟨[], .inl ⟨none, 0, by simpa using hcs, Nat.zero_le _, rfl⟩⟩
  · have hv : v = .slice (some a) len cap := by simpa using hcs
    subst hv
    have hhas : a.spot = none ∧ a.block < W.heap.size := by
      have h1 : Cell.ok Tryd.prog W .any base 30 (.slice (some a) len cap) := by
        have h2 := hok
        simp only [Value.okWide, Tryd.underlying30, Cell.okWide] at h2
        exact h2
      unfold Cell.ok at h1
      rw [Tryd.underlying30] at h1
      obtain ⟨_, _, _, hs, row, cells, hsh, _⟩ := h1
      refine ⟨hs, ?_⟩
      unfold World.shape? at hsh
      rcases Nat.lt_or_ge a.block W.heap.size with h2 | h2
      · exact h2
      · rw [Array.getElem?_eq_none h2] at hsh
        cases hsh
    obtain ⟨b, o, spot⟩ := a
    obtain ⟨hs, hlt⟩ := hhas
    simp only at hs hlt
    subst hs
    have hfield : ∀ (j t : Nat), (#[3, 3, 3, 9, 35, 3] : Array Nat)[j]? = some t → ∃ f : Field, fs[j]? = some f ∧ f.type = t := by
      intro j t hj
      rw [← hty] at hj
      simpa using hj
    have hcell : ∀ i j, (⟨b, o, none⟩ : Addr).add (i * fs.size + j) = ⟨b, o + i * 6 + j, none⟩ := by
      intro i j
      rw [hsz]
      unfold Addr.add
      split <;> simp_all [Nat.add_assoc]
    have hone_ : ∀ i, i < len → ∃ t : Tk6, ∀ (j : Nat) (u : Value), t.cells[j]? = some u → W.cell? ⟨b, o + i * 6 + j, none⟩ = some u := by
      intro i hil
      obtain ⟨n, hf⟩ := hi i hil
      obtain ⟨f0, e0, t0⟩ := hfield 0 3 rfl
      obtain ⟨f1, e1, t1⟩ := hfield 1 3 rfl
      obtain ⟨f2, e2, t2⟩ := hfield 2 3 rfl
      obtain ⟨f3, e3, t3⟩ := hfield 3 9 rfl
      obtain ⟨f4, e4, t4⟩ := hfield 4 35 rfl
      obtain ⟨f5, e5, t5⟩ := hfield 5 3 rfl
      obtain ⟨v0, y0, c0, r0⟩ := hf 0 f0 e0
      obtain ⟨v1, y1, c1, r1⟩ := hf 1 f1 e1
      obtain ⟨v2, y2, c2, r2⟩ := hf 2 f2 e2
      obtain ⟨v3, y3, c3, r3⟩ := hf 3 f3 e3
      obtain ⟨v4, y4, c4, r4⟩ := hf 4 f4 e4
      obtain ⟨v5, y5, c5, r5⟩ := hf 5 f5 e5
      rw [t0] at r0
      rw [t1] at r1
      rw [t2] at r2
      rw [t3] at r3
      rw [t4] at r4
      rw [t5] at r5
      obtain ⟨k, h0, _⟩ := DataW.trod_int Tryd.underlying3 r0
      obtain ⟨l, h1, _⟩ := DataW.trod_int Tryd.underlying3 r1
      obtain ⟨c, h2, _⟩ := DataW.trod_int Tryd.underlying3 r2
      obtain ⟨s, h3, _⟩ := DataW.trod_string Tryd.underlying9 r3
      obtain ⟨nn, h4, _⟩ := DataW.trod_int Tryd.underlying35 r4
      obtain ⟨sc, h5, _⟩ := DataW.trod_int Tryd.underlying3 r5
      simp at h0 h1 h2 h3 h4 h5
      subst h0 h1 h2 h3 h4 h5
      rw [hcell] at c0 c1 c2 c3 c4 c5
      refine ⟨⟨k, l, c, s, nn, sc⟩, fun j u hj => ?_⟩
      match j, hj with
      | 0, hj => cases hj; exact c0
      | 1, hj => cases hj; exact c1
      | 2, hj => cases hj; exact c2
      | 3, hj => cases hj; exact c3
      | 4, hj => cases hj; exact c4
      | 5, hj => cases hj; exact c5
      | j + 6, hj => simp [Tk6.cells] at hj
    obtain ⟨ts, hlen, hq⟩ := list_of_lt hone_
    subst hlen
    exact ⟨ts, .inr ⟨b, o, cap, rfl, hl, hm, hlt, hq⟩⟩
end Go.Proofs.YtbhfblogjlpnlabDoor
