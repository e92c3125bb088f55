/-
  The contract of (*Mem).Lay: some bytes put one behind the other. Condition: the bytes lie in the memory, apart from the map; there are not too many.
-/
import Derived.Test.YticfffndciddgaaMeStore
namespace Go.Proofs.Yticfffndciddgaa
open Go.RowKit Go.Maps

/-- A slice of bytes. -/
structure BytesAt (w : World) (A : Option Addr) (bs : List Int) : Prop where
  at_ : ∀ i v, bs[i]? = some v → ∃ g o, A = some ⟨g, o, none⟩ ∧ g < w.heap.size ∧ w.cell? ⟨g, o + i, none⟩ = some (.int .u8 v)
  ok : ∀ v ∈ bs, 0 ≤ v ∧ v ≤ 255
theorem BytesAt.next {w w' : World} {A : Option Addr} {bs : List Int} (h : BytesAt w A bs) (hb : Below w.heap.size w w') : BytesAt w' A bs :=
  ⟨fun i x hx => by
    obtain ⟨g, o, q1, q2, q3⟩ := h.at_ i x hx
    exact ⟨g, o, q1, Nat.lt_of_lt_of_le q2 hb.size, (hb.cell (p := ⟨g, o + i, none⟩) q2).trans q3⟩, h.ok⟩

set_option maxRecDepth 100000 in
set_option maxHeartbeats 2000000 in
theorem lay_is {w : World} {p b n : Nat} {f : Int → Int} {A : Option Addr} {c m : Nat} {bs : List Int} (h : MemIs w p b n f) (hm : bs.length = m) (hB : BytesAt w A bs) (hA : ∀ g o, 0 < m → A = some ⟨g, o, none⟩ → g ≠ b) (hmc : m ≤ c) (hcm : c ≤ maxLen) (a : Int) (hn : n + m < 900000) :
    Calls Try.prog 13 #[.pointer (some ⟨p, 0, none⟩), .int .u32 a, .slice A m c] w fun e w' => e = .returned (.tuple #[]) ∧ MemIs w' p b (n + m) (laidF (fun k => bs.getD k 0) f a m) ∧ w.grownBy w' (some b) := by
  have H := Lib.hid h
  have HB := Lib.hid (And.intro hB (And.intro hA hm))
  have hcs : c ≤ 9223372036854775807 := by unfold maxLen at hcm; omega
  clear h hB hA hm
  go_enter Try.func13, Try.ntmps13
  go_wp2_with fail
  go_loopg [9] (m + 1) (fun k vi wr => ∃ i : Nat, vi = .int .i64 i ∧ i ≤ m ∧ m + 1 ≤ i + k ∧ Hid (MemIs wr p b (n + i) (laidF (fun k => bs.getD k 0) f a i) ∧ w.grownBy wr (some b)))
  case atStart => exact ⟨0, rfl, Nat.zero_le _, by omega, Lib.hid ⟨H.out, World.grownBy.refl _ _⟩⟩
  case round =>
    obtain ⟨i, rfl, hi, hk, HI⟩ := hrel
    have hA : IntKind.u32.wrap (a + (i : Int)) = adr a i := by rw [IntKind.wrap_u32]; rfl
    by_cases hlt : i < m
    · have hlti : (i : Int) < m := by omega
      have hic : (i : Int) < c := by omega
      obtain ⟨x, hx⟩ : ∃ x, bs[i]? = some x := ⟨_, List.getElem?_eq_getElem (HB.out.2.2 ▸ hlt)⟩
      obtain ⟨g, o, rfl, hg, e0⟩ := HB.out.1.at_ i x hx
      have e1 : wr.cell? ⟨g, o + i, none⟩ = some (.int .u8 x) := (World.cell?_of_block (w := w) (a := ⟨g, o + i, none⟩) (HI.out.2.block g hg (fun q => by injection q with q; exact HB.out.2.1 g o (by omega) rfl q))).trans e0
      obtain ⟨x0, x1⟩ := HB.out.1.ok x (List.mem_of_getElem? hx)
      have HT : Hid (bs.getD i 0 = x) := Lib.hid (by simp [List.getD, hx])
      have HP := Lib.hid (put_is HI.out.1 (adr a i) x (adr_lo a i) (adr_hi a i) x0 x1 (by omega))
      clear hx x0 x1 e0
      go_wp2_with (go_at_call 23; refine HP.out.mono ?_; rintro e w2 ⟨rfl, q1, q2⟩)
      have HX : Hid (MemIs w2 p b (n + (i + 1)) (laidF (fun k => bs.getD k 0) f a (i + 1)) ∧ w.grownBy w2 (some b)) := Lib.hid ⟨by
        have e : laidF (fun k => bs.getD k 0) f a (i + 1) = upd (laidF (fun k => bs.getD k 0) f a i) (adr a i) x := by
          show upd _ _ (bs.getD i 0) = _
          rw [HT.out]
        rw [e]
        exact q1, HI.out.2.trans q2⟩
      clear q1 q2
      go_roundg (m - i)
      case measure => omega
      case rel => exact ⟨i + 1, by go_num, by omega, by omega, HX⟩
    · have hlti : ¬ (i : Int) < m := by omega
      obtain rfl : i = m := by omega
      go_wp2
      go_end0
      exact ⟨rfl, HI.out.1, HI.out.2⟩
end Go.Proofs.Yticfffndciddgaa
