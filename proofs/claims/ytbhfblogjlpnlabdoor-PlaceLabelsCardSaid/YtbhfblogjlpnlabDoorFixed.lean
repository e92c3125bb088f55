/-
  The contracts of kind.IsInstruction, span.fixed, span.Classes, and of the end of an extent. Conditions: for span.fixed and span.Classes, the item leads nowhere.
-/
import Derived.Test.YtbhfblogjlpnlabDoorItem
namespace Go.Proofs.YtbhfblogjlpnlabDoor
open Go.RowKit

def fixedN (t : Itm) : Int :=
  if t.K = 9 then t.nm.size else if t.K = 8 then (if t.sz = 1 then 1 else if t.sz = 2 then 2 else 4) else if t.K = 2 ∨ t.K = 3 then (if t.sz = 2 then 2 else 4) else if t.K = 7 then 8 else 0
theorem fixedN_pos (t : Itm) : 0 ≤ fixedN t := by unfold fixedN; repeat' split <;> omega
theorem fixedN_le (t : Itm) (h : t.nm.size ≤ 4294967296) : fixedN t ≤ 4294967296 := by unfold fixedN; repeat' split <;> omega

set_option maxRecDepth 100000 in
theorem instr_no (t : Itm) (h : ¬ (2 ≤ t.K ∧ t.K ≤ 7)) (w : World) :
    Calls Tryd.prog 76 #[.agg t.cs] w fun e w' => e = .returned (.bool false) ∧ Below w.heap.size w w' := by
  have h2 : (t.K == 2) = false := by simp; omega
  have h3 : (t.K == 3) = false := by simp; omega
  have h7 : (t.K == 7) = false := by simp; omega
  have hl := leads_no t (by unfold Lead; omega) (w.alloc (.cells t.cs 89))
  clear h
  go_enter Tryd.func76, Tryd.ntmps76
  go_wp2_with (go_at_call 93; refine hl.mono ?_; rintro e w' ⟨rfl, hb⟩; have c0 := hb.cell (p := ⟨w.heap.size, 0, none⟩) (by simp); simp [Itm.cs] at c0)
  go_ret
  exact ⟨rfl, ((Below.refl _ _).alloc (Nat.le_refl _) _).trans (hb.mono (by simp))⟩

set_option maxRecDepth 100000 in
theorem instr_yes (t : Itm) (h : 2 ≤ t.K ∧ t.K ≤ 7) (w : World) :
    Calls Tryd.prog 76 #[.agg t.cs] w fun e w' => e = .returned (.bool true) ∧ Below w.heap.size w w' := by
  by_cases hL : Lead t.K
  · have hl := leads_yes t hL (w.alloc (.cells t.cs 89))
    clear h hL
    go_enter Tryd.func76, Tryd.ntmps76
    go_wp2_with (go_at_call 93; refine hl.mono ?_; rintro e w' ⟨rfl, hb⟩; have c0 := hb.cell (p := ⟨w.heap.size, 0, none⟩) (by simp); simp [Itm.cs] at c0)
    go_ret
    exact ⟨rfl, ((Below.refl _ _).alloc (Nat.le_refl _) _).trans (hb.mono (by simp))⟩
  · have hl := leads_no t hL (w.alloc (.cells t.cs 89))
    have hc : (t.K == 2) = true ∨ ((t.K == 2) = false ∧ (t.K == 3) = true) ∨ ((t.K == 2) = false ∧ (t.K == 3) = false ∧ (t.K == 7) = true) := by
      unfold Lead at hL
      rcases (show t.K = 2 ∨ t.K = 3 ∨ t.K = 7 by omega) with h | h | h <;> rw [h] <;> decide
    clear h hL
    rcases hc with h2 | ⟨h2, h3⟩ | ⟨h2, h3, h7⟩
    all_goals
      go_enter Tryd.func76, Tryd.ntmps76
      go_wp2_with (go_at_call 93; refine hl.mono ?_; rintro e w' ⟨rfl, hb⟩; have c0 := hb.cell (p := ⟨w.heap.size, 0, none⟩) (by simp); simp [Itm.cs] at c0)
      go_ret
      exact ⟨rfl, ((Below.refl _ _).alloc (Nat.le_refl _) _).trans (hb.mono (by simp))⟩

/-- The tests of a switch over an item's kind, and its outcome, one by one. -/
theorem kinds_of (t : Itm) (h : ¬ Lead t.K) : (t.K == 4) = false ∧ (t.K == 5) = false ∧ (t.K == 6) = false ∧
    (((t.K == 9) = true ∧ fixedN t = t.nm.size) ∨
     ((t.K == 9) = false ∧ (t.K == 8) = true ∧ (t.sz == 1) = true ∧ fixedN t = 1) ∨
     ((t.K == 9) = false ∧ (t.K == 8) = true ∧ (t.sz == 1) = false ∧ (t.sz == 2) = true ∧ fixedN t = 2) ∨
     ((t.K == 9) = false ∧ (t.K == 8) = true ∧ (t.sz == 1) = false ∧ (t.sz == 2) = false ∧ fixedN t = 4) ∨
     ((t.K == 9) = false ∧ (t.K == 8) = false ∧ (t.K == 2) = true ∧ (t.sz == 2) = true ∧ fixedN t = 2) ∨
     ((t.K == 9) = false ∧ (t.K == 8) = false ∧ (t.K == 2) = true ∧ (t.sz == 2) = false ∧ fixedN t = 4) ∨
     ((t.K == 9) = false ∧ (t.K == 8) = false ∧ (t.K == 2) = false ∧ (t.K == 3) = true ∧ (t.sz == 2) = true ∧ fixedN t = 2) ∨
     ((t.K == 9) = false ∧ (t.K == 8) = false ∧ (t.K == 2) = false ∧ (t.K == 3) = true ∧ (t.sz == 2) = false ∧ fixedN t = 4) ∨
     ((t.K == 9) = false ∧ (t.K == 8) = false ∧ (t.K == 2) = false ∧ (t.K == 3) = false ∧ (t.K == 7) = true ∧ fixedN t = 8) ∨
     ((t.K == 9) = false ∧ (t.K == 8) = false ∧ (t.K == 2) = false ∧ (t.K == 3) = false ∧ (t.K == 7) = false ∧ fixedN t = 0)) := by
  unfold Lead at h
  unfold fixedN
  refine ⟨by simp; omega, by simp; omega, by simp; omega, ?_⟩
  by_cases h9 : t.K = 9
  · exact .inl ⟨by simp [h9], by simp [h9]⟩
  by_cases h8 : t.K = 8
  · by_cases s1 : t.sz = 1
    · exact .inr (.inl ⟨by simp [h8], by simp [h8], by simp [s1], by simp [h8, s1]⟩)
    by_cases s2 : t.sz = 2
    · exact .inr (.inr (.inl ⟨by simp [h8], by simp [h8], by simp [s1], by simp [s2], by simp [h8, s2]⟩))
    · exact .inr (.inr (.inr (.inl ⟨by simp [h8], by simp [h8], by simp [s1], by simp [s2], by simp [h8, s1, s2]⟩)))
  by_cases h2 : t.K = 2
  · by_cases s2 : t.sz = 2
    · exact .inr (.inr (.inr (.inr (.inl ⟨by simp [h2], by simp [h2], by simp [h2], by simp [s2], by simp [h2, s2]⟩))))
    · exact .inr (.inr (.inr (.inr (.inr (.inl ⟨by simp [h2], by simp [h2], by simp [h2], by simp [s2], by simp [h2, s2]⟩)))))
  by_cases h3 : t.K = 3
  · by_cases s2 : t.sz = 2
    · exact .inr (.inr (.inr (.inr (.inr (.inr (.inl ⟨by simp [h3], by simp [h3], by simp [h3], by simp [h3], by simp [s2], by simp [h3, s2]⟩))))))
    · exact .inr (.inr (.inr (.inr (.inr (.inr (.inr (.inl ⟨by simp [h3], by simp [h3], by simp [h3], by simp [h3], by simp [s2], by simp [h3, s2]⟩)))))))
  by_cases h7 : t.K = 7
  · exact .inr (.inr (.inr (.inr (.inr (.inr (.inr (.inr (.inl ⟨by simp [h7], by simp [h7], by simp [h7], by simp [h7], by simp [h7], by simp [h7]⟩))))))))
  · exact .inr (.inr (.inr (.inr (.inr (.inr (.inr (.inr (.inr ⟨by simp [h9], by simp [h8], by simp [h2], by simp [h3], by simp [h7], by simp [h9, h8, h2, h3, h7]⟩))))))))

set_option maxRecDepth 100000 in
set_option maxHeartbeats 4000000 in
theorem fixed_any (t : Itm) (h : ¬ Lead t.K) (w : World) :
    Calls Tryd.prog 107 #[.agg t.cs] w fun e w' => e = .returned (.int .i64 (fixedN t)) ∧ Below w.heap.size w w' := by
  obtain ⟨h4, h5, h6, hc⟩ := kinds_of t h
  clear h
  rcases hc with ⟨h9, hr⟩ | ⟨h9, h8, s1, hr⟩ | ⟨h9, h8, s1, s2, hr⟩ | ⟨h9, h8, s1, s2, hr⟩ | ⟨h9, h8, h2, s2, hr⟩ | ⟨h9, h8, h2, s2, hr⟩ | ⟨h9, h8, h2, h3, s2, hr⟩ | ⟨h9, h8, h2, h3, s2, hr⟩ | ⟨h9, h8, h2, h3, h7, hr⟩ | ⟨h9, h8, h2, h3, h7, hr⟩
  all_goals
    rw [hr]
    clear hr
    go_enter Tryd.func107, Tryd.ntmps107
    go_wp2
    go_ret
    exact ⟨rfl, (Below.refl _ _).alloc (Nat.le_refl _) _⟩

/-- One number, in a row of its own. -/
def OneOut (w : World) (x : Int) (e : Ending) (w' : World) : Prop :=
  ∃ g, e = .returned (.slice (some ⟨g, 0, none⟩) 1 1) ∧ w'.cell? ⟨g, 0, none⟩ = some (.int .i64 x) ∧ Below w.heap.size w w'

set_option maxRecDepth 100000 in
theorem classes_any (t : Itm) (h : ¬ Lead t.K) (w : World) :
    Calls Tryd.prog 92 #[.agg t.cs] w (OneOut w (fixedN t)) := by
  have hl := leads_no t h (w.alloc (.cells t.cs 89))
  have hf := fixed_any t h
  clear h
  go_enter Tryd.func92, Tryd.ntmps92
  go_wp2_with (first | (go_at_call 93; refine hl.mono ?_; rintro e w1 ⟨rfl, hb⟩; have HB := Lib.hid hb; have c0 := hb.cell (p := ⟨w.heap.size, 0, none⟩) (by simp); have c1 := hb.cell (p := ⟨w.heap.size, 1, none⟩) (by simp); have c2 := hb.cell (p := ⟨w.heap.size, 2, none⟩) (by simp); have c3 := hb.cell (p := ⟨w.heap.size, 3, none⟩) (by simp); have c4 := hb.cell (p := ⟨w.heap.size, 4, none⟩) (by simp); have c5 := hb.cell (p := ⟨w.heap.size, 5, none⟩) (by simp); have c6 := hb.cell (p := ⟨w.heap.size, 6, none⟩) (by simp); have c7 := hb.cell (p := ⟨w.heap.size, 7, none⟩) (by simp); have c8 := hb.cell (p := ⟨w.heap.size, 8, none⟩) (by simp); have c9 := hb.cell (p := ⟨w.heap.size, 9, none⟩) (by simp); have c10 := hb.cell (p := ⟨w.heap.size, 10, none⟩) (by simp); have c11 := hb.cell (p := ⟨w.heap.size, 11, none⟩) (by simp); have c12 := hb.cell (p := ⟨w.heap.size, 12, none⟩) (by simp); have c13 := hb.cell (p := ⟨w.heap.size, 13, none⟩) (by simp); have c14 := hb.cell (p := ⟨w.heap.size, 14, none⟩) (by simp); simp [Itm.cs] at c0 c1 c2 c3 c4 c5 c6 c7 c8 c9 c10 c11 c12 c13 c14; clear hb) | (go_at_call 107; refine (hf _).mono ?_; rintro e w2 ⟨rfl, hb2⟩))
  go_ret
  have hb1 : Below w.heap.size w w1 := ((Below.refl _ _).alloc (Nat.le_refl _) _).trans (HB.out.mono (by simp))
  have hb3 : Below w.heap.size w w2 := hb1.trans (hb2.mono hb1.size)
  exact ⟨_, rfl, by simp, hb3.alloc hb3.size _⟩

set_option maxRecDepth 100000 in
theorem end_any (a b : Int) (w : World) (h1 : -9223372036854775808 ≤ a + b) (h2 : a + b ≤ 9223372036854775807) :
    Calls Tryd.prog 56 #[.agg #[.int .i64 a, .int .i64 b]] w fun e w' => e = .returned (.int .i64 (a + b)) ∧ w' = w.alloc (.cells #[.int .i64 a, .int .i64 b] 122) := by
  go_enter Tryd.func56, Tryd.ntmps56
  go_wp2
  go_ret
  exact ⟨rfl, rfl⟩
end Go.Proofs.YtbhfblogjlpnlabDoor
