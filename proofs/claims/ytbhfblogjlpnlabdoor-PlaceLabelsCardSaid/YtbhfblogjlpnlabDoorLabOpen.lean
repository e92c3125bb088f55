/-
  Arguments opened: a slice of words, of symbols.
-/
import Derived.Test.YtbhfblogjlpnlabDoorLabLaw
namespace Go.Proofs.YtbhfblogjlpnlabDoor
open Go.ChangeShapes Go.WideShapes Go.RowKit Go.Deep

theorem Tryd.cellsSym : Tryd.prog.cellsOf 133 = 3 := by kernel_rfl
theorem Tryd.bytesSym : 0 < Tryd.prog.bytesOf 133 := of_decide_eq_true (by kernel_rfl)
theorem Tryd.symStruct : ∃ fs, Tryd.prog.underlying 133 = some (.struct fs) ∧ (fs.map fun f => (f.type, f.offset)) = #[(9, 0), (35, 1), (3, 2)] ∧ fs.toList.map (·.type) = [9, 35, 3] :=
  ⟨_, Tryd.underlying133, by kernel_rfl, by kernel_rfl⟩

section
variable {H : Type} {enc : TypeId × Value → H} {w : World} {base : Nat} {spare : Nat → Bool} {held : Bool} {n : Nat}
/-- A slice of words, opened. -/
theorem open_words {fuel : Nat} {v : Value} {x : DataW H × List MemPlace} (h : DataW.trod enc Tryd.prog w base spare held fuel 70 [v] = some x) :
    ∃ A n cap V, v = .slice A n cap ∧ WdsB w.heap.size V w A n := by
  rcases open_slice1 Tryd.underlying70 Tryd.cellsU32 h with ⟨hcs, _⟩ | ⟨a, len, cap, m, n2, V, D, Pl, hcs, _, hl, _, hm, _, hi⟩
  · exact ⟨none, 0, 0, fun _ => 0, by simpa using hcs, fun k hk => absurd hk (by omega)⟩
  · have hlm : len ≤ m := by rw [hm]; split <;> omega
    have hone : ∀ i, i < len → ∃ k : Int, w.cell? (a.add i) = some (.int .u32 k) := by
      intro i hil
      obtain ⟨hc, ht⟩ := hi i (by omega)
      obtain ⟨k, hk, _, _⟩ := DataW.trod_int Tryd.underlying35 ht
      simp at hk
      exact ⟨k, by rw [hc, hk]⟩
    obtain ⟨f, hf⟩ := choose_lt hone
    refine ⟨some a, len, cap, f, by simpa using hcs, fun j hj => ?_⟩
    have hc := hf j hj
    have hspot : a.spot = none := by
      have := World.cell?_spot (hf 0 (by omega))
      simpa [Addr.add] using this
    rw [addr_plain hspot] at hc
    exact ⟨a.block, a.off, by cases a; simp_all, (World.block_lt_of_cell? w ⟨a.block, a.off + j, none⟩ hc :), hc⟩

theorem open_sym {cs : List Value} {x : DataW H × List MemPlace} (h : DataW.trod enc Tryd.prog w base spare held n 133 cs = some x) :
    ∃ t : Sy, cs = t.cells ∧ ((∀ m ∈ x.1.weights Tryd.prog 133, m ≤ reachBytes) → t.nm.size ≤ 140737488351232) := by
  obtain ⟨fs, hu, hty, htl⟩ := Tryd.symStruct
  obtain ⟨ys, n', _, hx, hlen, hyl, hf⟩ := DataW.trod_struct hu h
  rw [Tryd.cellsSym] at hlen
  have hsz : fs.size = 3 := by have := congrArg Array.size hty; simpa using this
  rw [hsz] at hyl
  obtain _ | ⟨v0, _ | ⟨v1, _ | ⟨v2, _ | ⟨_, _⟩⟩⟩⟩ := cs
  all_goals simp at hlen
  obtain _ | ⟨y0, _ | ⟨y1, _ | ⟨y2, _ | ⟨_, _⟩⟩⟩⟩ := ys
  all_goals simp at hyl
  obtain ⟨f0, e0, t0, o0⟩ := field_at hty (j := 0) (t := 9) (o := 0) rfl
  have h0 := hf 0 f0 e0
  rw [t0, o0, Tryd.cellsStr] at h0
  obtain ⟨f1, e1, t1, o1⟩ := field_at hty (j := 1) (t := 35) (o := 1) rfl
  have h1 := hf 1 f1 e1
  rw [t1, o1, Tryd.cellsU32] at h1
  obtain ⟨f2, e2, t2, o2⟩ := field_at hty (j := 2) (t := 3) (o := 2) rfl
  have h2 := hf 2 f2 e2
  rw [t2, o2, Tryd.cellsInt] at h2
  simp at h0 h1 h2
  obtain ⟨s, g0, gy0, _⟩ := DataW.trod_string Tryd.underlying9 h0
  obtain ⟨k1, g1, _⟩ := DataW.trod_int Tryd.underlying35 h1
  obtain ⟨k2, g2, _⟩ := DataW.trod_int Tryd.underlying3 h2
  simp at g0 g1 g2
  refine ⟨⟨s, k1, k2⟩, by rw [g0, g1, g2]; rfl, fun hw => ?_⟩
  have := hw s.size (by
    rw [hx]
    unfold DataW.weights
    rw [hu]
    dsimp only
    rw [htl]
    refine DataW.weights_mem_each (j := 0) (t := 9) rfl rfl _ ?_
    rw [gy0]
    simp [DataW.weights])
  unfold reachBytes at this
  show s.size ≤ _
  omega

/-- A slice of symbols, opened. -/
theorem open_syms {fuel : Nat} {v : Value} {x : DataW H × List MemPlace} (h : DataW.trod enc Tryd.prog w base spare held fuel 77 [v] = some x) :
    ∃ A n cap Y, v = .slice A n cap ∧ SymsIn w.heap.size Y w A n ∧ ((∀ m ∈ x.1.weights Tryd.prog 77, m ≤ reachBytes) → n ≤ 140737488351232 ∧ ∀ k, k < n → (Y k).nm.size ≤ 140737488351232) := by
  rcases open_slice Tryd.underlying77 h with ⟨hcs, _⟩ | ⟨a, len, cap, m, n2, D, Pl, hcs, _, hl, _, hm, hx, hi⟩
  · exact ⟨none, 0, 0, fun _ => default, by simpa using hcs, fun k hk => absurd hk (by omega), fun _ => ⟨by omega, fun k hk => absurd hk (by omega)⟩⟩
  · have hlm : len ≤ m := by rw [hm]; split <;> omega
    have hone : ∀ i, i < len → ∃ t : Sy, (∀ j u, t.cells[j]? = some u → w.cell? (a.add (i * 3 + j)) = some u) ∧ ((∀ m ∈ (D i).weights Tryd.prog 133, m ≤ reachBytes) → t.nm.size ≤ 140737488351232) := by
      intro i hil
      obtain ⟨cs', hc, ht⟩ := hi i (by omega)
      rw [Tryd.cellsSym] at hc
      obtain ⟨t, rfl, hw⟩ := open_sym ht
      obtain ⟨_, hcl, hat⟩ := World.cells?_some hc
      refine ⟨t, fun j u hu => ?_, hw⟩
      have hj : j < 3 := by
        have := (List.getElem?_eq_some_iff.1 hu).1
        simpa [Sy.cells] using this
      rw [← Go.Deep.add_add, hat j hj]
      exact hu
    obtain ⟨f, hf⟩ := choose_lt hone
    refine ⟨some a, len, cap, f, by simpa using hcs, fun k hk => ?_, fun hw => ?_⟩
    · have hc := (hf k hk).1
      have hspot : a.spot = none := by
        have := World.cell?_spot ((hf 0 (by omega)).1 0 _ rfl)
        simpa [Addr.add] using this
      have hcell : ∀ j u, (f k).cells[j]? = some u → w.cell? ⟨a.block, a.off + k * 3 + j, none⟩ = some u := by
        intro j u hu
        have := hc j u hu
        rwa [addr_plain hspot, ← Nat.add_assoc] at this
      have h0 := hcell 0 _ rfl
      exact ⟨a.block, a.off, by cases a; simp_all, (World.block_lt_of_cell? w ⟨a.block, a.off + k * 3 + 0, none⟩ h0 :), h0, hcell 1 _ rfl, hcell 2 _ rfl⟩
    · have hall : ∀ d ∈ (List.range len).map D, ∀ q ∈ d.weights Tryd.prog 133, q ∈ x.1.weights Tryd.prog 77 := by
        intro d hd q hq
        rw [hx]
        unfold DataW.weights
        rw [Tryd.underlying77]
        exact List.mem_cons_of_mem _ (List.mem_append.2 (.inl (weightsAll_mem hd q hq)))
      have hn := hw ((((List.range len).map D).length + ((List.range (m - len)).map fun j => D (len + j)).length) * Tryd.prog.bytesOf 133) (by
        rw [hx]
        unfold DataW.weights
        rw [Tryd.underlying77]
        simp)
      simp only [List.length_map, List.length_range] at hn
      have h1 : len ≤ (len + (m - len)) * Tryd.prog.bytesOf 133 := Nat.le_trans (by omega) (Nat.le_mul_of_pos_right _ Tryd.bytesSym)
      unfold reachBytes at hn
      exact ⟨by omega, fun k hk => (hf k hk).2 (fun q hq => hw q (hall (D k) (List.mem_map.2 ⟨k, List.mem_range.2 hk, rfl⟩) q hq))⟩
end
end Go.Proofs.YtbhfblogjlpnlabDoor
