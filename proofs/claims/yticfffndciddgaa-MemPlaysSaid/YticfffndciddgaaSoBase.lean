/-
  A row of uint32 that a sort has in hand: what it holds, what else stays; an exchange of two of its cells; the contract of cmp.Less at uint32. Condition: the row lies in a block at or above a bound, and nothing below the bound turns.
-/
import Derived.Test.YticfffndciddgaaProg
import Derived.WalkKit
import Derived.Below
import Derived.Lib.Hide
import Derived.BigQuiet
import Derived.Laws.OwnMore
import Derived.Deep.LoopGhost
import Derived.BigGuard
import Derived.BigCall
import Derived.CellFam
import Derived.Deep.Draws
import Derived.Deep.QuietTactic
import Derived.Sort.AssemblyPlain
namespace Go.Proofs.Yticfffndciddgaa
open Go.RowKit

/-- The row of the block g from o on holds d; nothing below the bound has turned. -/
structure Srt (B : Nat) (w0 : World) (g o : Nat) (d : Array Int) (w : World) : Prop where
  cell : ∀ t, t < d.size → w.cell? ⟨g, o + t, none⟩ = some (.int .u32 d[t]!)
  free : ∀ t, t < d.size → w.frozen? ⟨g, o + t, none⟩ = false
  below : Below B w0 w
  base : B ≤ g
  lt : g < w.heap.size

section
variable {B g o : Nat} {w0 w w' : World} {d : Array Int}
theorem Srt.next (h : Srt B w0 g o d w) (hb : Below w.heap.size w w') : Srt B w0 g o d w' :=
  ⟨fun t ht => (hb.cell (p := ⟨g, o + t, none⟩) h.lt).trans (h.cell t ht), fun t ht => (hb.frozen (p := ⟨g, o + t, none⟩) h.lt).trans (h.free t ht), h.below.trans (hb.mono (Nat.le_of_lt (Nat.lt_of_le_of_lt h.base h.lt))), h.base, Nat.lt_of_lt_of_le h.lt hb.size⟩
theorem bdrew {B : Nat} {w w' : World} (h : Below B w w') {n : Nat} : Below B w (w'.drewN n) := ⟨h.os, h.tape, h.output, h.size, h.block⟩
theorem Srt.drew (h : Srt B w0 g o d w) (n : Nat) : Srt B w0 g o d (w.drewN n) := h.next (bdrew (Below.refl _ _))
theorem Srt.set_size (w : World) (a : Addr) (u : Value) : (w.setCell a u).heap.size = w.heap.size := by simp
/-- Two cells are exchanged. -/
theorem Srt.swap (h : Srt B w0 g o d w) {i j : Nat} (hi : i < d.size) (hj : j < d.size) :
    Srt B w0 g o (Sort.swp d i j) ((w.setCell ⟨g, o + i, none⟩ (.int .u32 d[j]!)).setCell ⟨g, o + j, none⟩ (.int .u32 d[i]!)) := by
  refine ⟨fun t ht => ?_, fun t ht => ?_, (h.below.setCell (p := ⟨g, o + i, none⟩) h.base _).setCell (p := ⟨g, o + j, none⟩) h.base _, h.base, by simpa using h.lt⟩
  · rw [Sort.swp_size] at ht
    rw [Sort.swp_get d hi hj]
    have hc : ∃ u, (w.setCell ⟨g, o + i, none⟩ (.int .u32 d[j]!)).cell? ⟨g, o + j, none⟩ = some u := by
      by_cases hij : i = j
      · subst hij
        exact ⟨_, World.cell?_setCell_same _ _ _ (h.cell i hi)⟩
      · exact ⟨_, (World.cell?_setCell_other _ _ _ _ (by simp <;> omega)).trans (h.cell j hj)⟩
    obtain ⟨u, hu⟩ := hc
    by_cases htj : t = j
    · subst htj
      rw [if_pos rfl]
      exact World.cell?_setCell_same _ _ _ hu
    · rw [if_neg htj, World.cell?_setCell_other _ _ _ _ (by simp <;> omega)]
      by_cases hti : t = i
      · subst hti
        rw [if_pos rfl]
        exact World.cell?_setCell_same _ _ _ (h.cell t hi)
      · rw [if_neg hti, World.cell?_setCell_other _ _ _ _ (by simp <;> omega)]
        exact h.cell t ht
  · rw [Sort.swp_size] at ht
    simpa using h.free t ht
end

set_option maxRecDepth 100000 in
theorem less_is (x y : Int) (w : World) : Calls Try.prog 42 #[.int .u32 x, .int .u32 y] w fun e w' => e = .returned (.bool (Sort.ltInt x y)) ∧ w' = w := by
  go_enter Try.func42, Try.ntmps42
  go_wp2
  go_ret
  exact ⟨rfl, rfl⟩
end Go.Proofs.Yticfffndciddgaa
