/-
  A slice of bytes, opened out of its reading as data.
-/
import Derived.Test.YticfffndciddgaaMeLight
import Derived.Test.YticfffndciddgaaMeOpen
namespace Go.Proofs.Yticfffndciddgaa
open Go.ChangeShapes Go.WideShapes Go.RowKit Go.Deep

theorem Try.cellsByte : Try.prog.cellsOf 5 = 1 := by kernel_rfl

set_option maxRecDepth 100000 in
theorem open_bytes1 {H : Type} {enc : TypeId × Value → H} {w : World} {base : Nat} {spare : Nat → Bool} {held : Bool} {n : Nat} {v : Value} {x : DataW H × List MemPlace} (h : DataW.trod enc Try.prog w base spare held n 31 [v] = some x) :
    ∃ A c bs, v = .slice A (List.length bs) c ∧ bs.length ≤ c ∧ c ≤ maxLen ∧ BytesAt w A bs := by
  rcases open_slice1 Try.underlying31 Try.cellsByte h with ⟨hcs, _⟩ | ⟨a, len, cap, m, n2, V, D, Pl, hcs, _, hl, hcm, hm, hx, hi⟩
  · exact ⟨none, 0, [], by simpa using hcs, Nat.le_refl _, by simp [maxLen], fun i x hx => by simp at hx, fun x hx => by simp at hx⟩
  · have hv : v = .slice (some a) len cap := by simpa using hcs
    subst hv
    have hlm : len ≤ m := by rw [hm]; split <;> omega
    have hone : ∀ i, i < len → ∃ k : Int, w.cell? (a.add i) = some (.int .u8 k) ∧ 0 ≤ k ∧ k ≤ 255 := by
      intro i hil
      obtain ⟨hc, ht⟩ := hi i (by omega)
      obtain ⟨k, hk, _, hw⟩ := DataW.trod_int Try.underlying5 ht
      obtain ⟨q1, q2⟩ := u8_wf hw
      have e : V i = .int .u8 k := by simpa using hk
      exact ⟨k, by rw [hc, e], q1, q2⟩
    obtain ⟨bs, hlen, hq⟩ := list_of_lt2 hone
    subst hlen
    refine ⟨some a, cap, bs, rfl, hl, hcm, fun i x hx => ?_, fun x hx => ?_⟩
    · obtain ⟨hc, _⟩ := hq i x hx
      have h0 : 0 < bs.length := by have := (List.getElem?_eq_some_iff.1 hx).1; omega
      obtain ⟨hc0, _⟩ := hq 0 bs[0] (List.getElem?_eq_getElem h0)
      have hspot : a.spot = none := by
        have := World.cell?_spot hc0
        simpa [Addr.add] using this
      obtain ⟨b, o, spot⟩ := a
      simp only at hspot
      subst hspot
      have e : (⟨b, o, none⟩ : Addr).add i = ⟨b, o + i, none⟩ := by
        unfold Addr.add
        split <;> simp_all
      rw [e] at hc
      exact ⟨b, o, rfl, World.block_lt_of_cell? w _ hc, hc⟩
    · obtain ⟨i, hi2⟩ := List.mem_iff_getElem?.1 hx
      exact (hq i x hi2).2
end Go.Proofs.Yticfffndciddgaa
