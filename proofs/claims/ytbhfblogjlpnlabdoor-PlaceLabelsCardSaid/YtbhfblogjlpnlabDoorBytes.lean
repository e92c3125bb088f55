/-
  The contracts of place.bytes, place.wrong, and of the reference's Classes, said, At. Conditions: numbers in their bounds; the sizes' cells are there.
-/
import Derived.Test.YtbhfblogjlpnlabDoorFixed
import Derived.Maps.AppendAt
namespace Go.Proofs.YtbhfblogjlpnlabDoor
open Go.RowKit

/-- How many bytes an item has that lies there. -/
def bytesN (t : Itm) (size at_ base : Int) : Int :=
  if Lead t.K then min (max size 0) 8 else if t.K = 10 then (if t.num = 0 then 0 else (t.num - at_ % t.num) % t.num) else if t.K = 11 then base + t.num - at_ else fixedN t

/-- What is wrong with it: a code, or 0. -/
def wrongN (t : Itm) (at_ n base : Int) : Int :=
  if (2 ≤ t.K ∧ t.K ≤ 7) ∧ at_ % 2 ≠ 0 then 16 else if n < 0 ∨ 65536 < at_ + n - base ∨ 4294967295 < at_ + n then 12 else 0

set_option maxRecDepth 100000 in
set_option maxHeartbeats 2000000 in
theorem bytes_lead (t : Itm) (h : Lead t.K) (size at_ base : Int) (w : World) :
    Calls Tryd.prog 75 #[.agg t.cs, .int .i64 size, .int .i64 at_, .int .i64 base] w fun e w' => e = .returned (.int .i64 (min (max size 0) 8)) ∧ Below w.heap.size w w' := by
  have hc : (t.K == 4) = true ∨ ((t.K == 4) = false ∧ (t.K == 5) = true) ∨ ((t.K == 4) = false ∧ (t.K == 5) = false ∧ (t.K == 6) = true) := by
    unfold Lead at h
    rcases h with h | h | h <;> rw [h] <;> decide
  clear h
  have hs : (size < 0 ∧ min (max size 0) 8 = 0) ∨ (¬ size < 0 ∧ size ≤ 8 ∧ min (max size 0) 8 = size) ∨ (¬ size < 0 ∧ ¬ size ≤ 8 ∧ min (max size 0) 8 = 8) := by omega
  rcases hs with ⟨s0, hr⟩ | ⟨s0, s8, hr⟩ | ⟨s0, s8, hr⟩
  all_goals
    rw [hr]
    clear hr
    rcases hc with h4 | ⟨h4, h5⟩ | ⟨h4, h5, h6⟩
    all_goals
      go_enter Tryd.func75, Tryd.ntmps75
      go_wp2
      go_ret
      exact ⟨rfl, (Below.refl _ _).alloc (Nat.le_refl _) _⟩

theorem num_bits {n : Int} (h0 : 0 ≤ n) (x : Int) (hn : n ≠ 0) : 0 ≤ x % n ∧ x % n < n ∧ 0 ≤ n - x % n ∧ n - x % n ≤ n ∧ 0 ≤ (n - x % n) % n ∧ (n - x % n) % n < n := by
  have a := Int.emod_nonneg x hn
  have b := Int.emod_lt_of_pos x (show 0 < n by omega)
  have d := Int.emod_nonneg (n - x % n) hn
  have e := Int.emod_lt_of_pos (n - x % n) (show 0 < n by omega)
  exact ⟨a, b, by omega, by omega, d, e⟩

set_option maxRecDepth 100000 in
set_option maxHeartbeats 2000000 in
theorem bytes_align (t : Itm) (h : t.K = 10) (size at_ base : Int) (h0 : 0 ≤ at_) (h1 : at_ < 4611686018427387904) (n0 : 0 ≤ t.num) (n1 : t.num < 4294967296) (w : World) :
    Calls Tryd.prog 75 #[.agg t.cs, .int .i64 size, .int .i64 at_, .int .i64 base] w fun e w' => e = .returned (.int .i64 (if t.num = 0 then 0 else (t.num - at_ % t.num) % t.num)) ∧ Below w.heap.size w w' := by
  have h4 : (t.K == 4) = false := by rw [h]; decide
  have h5 : (t.K == 5) = false := by rw [h]; decide
  have h6 : (t.K == 6) = false := by rw [h]; decide
  have h10 : (t.K == 10) = true := by rw [h]; decide
  clear h
  by_cases hz : t.num = 0
  · rw [if_pos hz]
    have hz' : (t.num == 0) = true := by simp [hz]
    go_enter Tryd.func75, Tryd.ntmps75
    go_wp2
    go_ret
    exact ⟨rfl, (Below.refl _ _).alloc (Nat.le_refl _) _⟩
  · rw [if_neg hz]
    have hz' : (t.num == 0) = false := by simp [hz]
    have hb := num_bits n0 at_ hz
    obtain ⟨b1, b2, b3, b4, b5, b6⟩ := hb
    go_enter Tryd.func75, Tryd.ntmps75
    go_wp2
    go_ret
    exact ⟨rfl, (Below.refl _ _).alloc (Nat.le_refl _) _⟩

set_option maxRecDepth 100000 in
set_option maxHeartbeats 2000000 in
theorem bytes_org (t : Itm) (h : t.K = 11) (size at_ base : Int) (h0 : 0 ≤ at_) (h1 : at_ < 4611686018427387904) (n0 : 0 ≤ t.num) (n1 : t.num < 4294967296) (b0 : 0 ≤ base) (b1 : base < 4294967296) (w : World) :
    Calls Tryd.prog 75 #[.agg t.cs, .int .i64 size, .int .i64 at_, .int .i64 base] w fun e w' => e = .returned (.int .i64 (base + t.num - at_)) ∧ Below w.heap.size w w' := by
  have h4 : (t.K == 4) = false := by rw [h]; decide
  have h5 : (t.K == 5) = false := by rw [h]; decide
  have h6 : (t.K == 6) = false := by rw [h]; decide
  have h10 : (t.K == 10) = false := by rw [h]; decide
  have h11 : (t.K == 11) = true := by rw [h]; decide
  clear h
  go_enter Tryd.func75, Tryd.ntmps75
  go_wp2
  go_ret
  exact ⟨rfl, (Below.refl _ _).alloc (Nat.le_refl _) _⟩

set_option maxRecDepth 100000 in
set_option maxHeartbeats 2000000 in
theorem bytes_else (t : Itm) (hL : ¬ Lead t.K) (ha : t.K ≠ 10) (hb : t.K ≠ 11) (size at_ base : Int) (w : World) :
    Calls Tryd.prog 75 #[.agg t.cs, .int .i64 size, .int .i64 at_, .int .i64 base] w fun e w' => e = .returned (.int .i64 (fixedN t)) ∧ Below w.heap.size w w' := by
  have h4 : (t.K == 4) = false := by unfold Lead at hL; simp; omega
  have h5 : (t.K == 5) = false := by unfold Lead at hL; simp; omega
  have h6 : (t.K == 6) = false := by unfold Lead at hL; simp; omega
  have h10 : (t.K == 10) = false := by simp; omega
  have h11 : (t.K == 11) = false := by simp; omega
  have hc := classes_any t hL (w.alloc (.cells t.cs 89))
  clear hL ha hb
  go_enter Tryd.func75, Tryd.ntmps75
  go_wp2_with (go_at_call 92; refine hc.mono ?_; rintro e w1 ⟨g, rfl, hg, hb1⟩)
  go_ret
  exact ⟨rfl, ((Below.refl _ _).alloc (Nat.le_refl _) _).trans (hb1.mono (by simp))⟩

theorem bytes_any (t : Itm) (size at_ base : Int) (h0 : 0 ≤ at_) (h1 : at_ < 4611686018427387904) (n0 : 0 ≤ t.num) (n1 : t.num < 4294967296) (b0 : 0 ≤ base) (b1 : base < 4294967296) (w : World) :
    Calls Tryd.prog 75 #[.agg t.cs, .int .i64 size, .int .i64 at_, .int .i64 base] w fun e w' => e = .returned (.int .i64 (bytesN t size at_ base)) ∧ Below w.heap.size w w' := by
  unfold bytesN
  by_cases hL : Lead t.K
  · rw [if_pos hL]; exact bytes_lead t hL size at_ base w
  · rw [if_neg hL]
    by_cases ha : t.K = 10
    · rw [if_pos ha]; exact bytes_align t ha size at_ base h0 h1 n0 n1 w
    · rw [if_neg ha]
      by_cases hb : t.K = 11
      · rw [if_pos hb]; exact bytes_org t hb size at_ base h0 h1 n0 n1 b0 b1 w
      · rw [if_neg hb]; exact bytes_else t hL ha hb size at_ base w

/-- What wrong answers: nothing, or a code. -/
def codeV (c : Int) : Value := if c = 0 then .nilIface else .iface 111 (.int .i64 c)
end Go.Proofs.YtbhfblogjlpnlabDoor
