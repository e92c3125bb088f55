/-
  The contracts of place.wrong, and of the reference's Classes, said, At. Conditions: numbers in their bounds; the sizes' cells are there; for Classes, the item leads nowhere.
-/
import Derived.Test.YtbhfblogjlpnlabDoorBytes
namespace Go.Proofs.YtbhfblogjlpnlabDoor
open Go.RowKit

set_option maxRecDepth 100000 in
set_option maxHeartbeats 4000000 in
theorem wrong_any (t : Itm) (at_ n base : Int) (h0 : 0 ≤ at_) (h1 : at_ < 2305843009213693952) (n0 : -2305843009213693952 < n) (n1 : n < 2305843009213693952) (b0 : 0 ≤ base) (b1 : base < 4294967296) (w : World) :
    Calls Tryd.prog 54 #[.agg t.cs, .agg #[.int .i64 at_, .int .i64 n], .int .i64 base] w fun e w' => e = .returned (codeV (wrongN t at_ n base)) ∧ Below w.heap.size w w' := by
  have hb0 : Below w.heap.size w ((w.alloc (.cells t.cs 89)).alloc (.cells #[.int .i64 at_, .int .i64 n] 122)) := ((Below.refl _ _).alloc (Nat.le_refl _) _).alloc (by simp) _
  have HB0 := Lib.hid hb0
  clear hb0
  have hsum : -9223372036854775808 ≤ at_ + n ∧ at_ + n ≤ 9223372036854775807 := by omega
  obtain ⟨hs1, hs2⟩ := hsum
  by_cases hi : 2 ≤ t.K ∧ t.K ≤ 7
  · have hc := instr_yes t hi ((w.alloc (.cells t.cs 89)).alloc (.cells #[.int .i64 at_, .int .i64 n] 122))
    by_cases ho : at_ % 2 ≠ 0
    · have hw : wrongN t at_ n base = 16 := by unfold wrongN; rw [if_pos ⟨hi, ho⟩]
      rw [hw]
      have ho' : (at_ % 2 != 0) = true := by simpa using ho
      clear hw hi ho
      go_enter Tryd.func54, Tryd.ntmps54
      go_wp2_with (go_at_call 76; refine hc.mono ?_; rintro e w1 ⟨rfl, hb1⟩; have HB1 := Lib.hid (HB0.out.trans (hb1.mono (by simp; omega))); have e0 := hb1.cell (p := ⟨w.heap.size + 1, 0, none⟩) (by simp); have e1 := hb1.cell (p := ⟨w.heap.size + 1, 1, none⟩) (by simp); simp at e0 e1; clear hb1)
      go_ret
      exact ⟨rfl, HB1.out⟩
    · have hw : wrongN t at_ n base = if n < 0 ∨ 65536 < at_ + n - base ∨ 4294967295 < at_ + n then 12 else 0 := by unfold wrongN; rw [if_neg (fun h => ho h.2)]
      rw [hw]
      have ho' : (at_ % 2 != 0) = false := by simpa using ho
      have hd : (n < 0 ∧ (if n < 0 ∨ 65536 < at_ + n - base ∨ 4294967295 < at_ + n then (12 : Int) else 0) = 12) ∨ (¬ n < 0 ∧ 65536 < at_ + n - base ∧ (if n < 0 ∨ 65536 < at_ + n - base ∨ 4294967295 < at_ + n then (12 : Int) else 0) = 12) ∨ (¬ n < 0 ∧ ¬ 65536 < at_ + n - base ∧ 4294967295 < at_ + n ∧ (if n < 0 ∨ 65536 < at_ + n - base ∨ 4294967295 < at_ + n then (12 : Int) else 0) = 12) ∨ (¬ n < 0 ∧ ¬ 65536 < at_ + n - base ∧ ¬ 4294967295 < at_ + n ∧ (if n < 0 ∨ 65536 < at_ + n - base ∨ 4294967295 < at_ + n then (12 : Int) else 0) = 0) := by
        split <;> omega
      clear hw hi ho
      rcases hd with ⟨d1, hr⟩ | ⟨d1, d2, hr⟩ | ⟨d1, d2, d3, hr⟩ | ⟨d1, d2, d3, hr⟩
      all_goals
        rw [hr]
        clear hr
        go_enter Tryd.func54, Tryd.ntmps54
        go_wp2_with fail
        refine hc.mono ?_
        rintro e w1 ⟨rfl, hb1⟩
        have HB1 := Lib.hid (HB0.out.trans (hb1.mono (by simp; omega)))
        have e0 := hb1.cell (p := ⟨w.heap.size + 1, 0, none⟩) (by simp)
        have e1 := hb1.cell (p := ⟨w.heap.size + 1, 1, none⟩) (by simp)
        simp at e0 e1
        have hlt1 : w.heap.size + 1 < w1.heap.size := World.block_lt_of_cell? _ _ e0
        have hne : w1.heap.size ≠ w.heap.size + 1 := by omega
        clear hb1
        go_wp2_with (go_at_call 56; refine (end_any at_ n _ hs1 hs2).mono ?_; rintro e w2 ⟨rfl, rfl⟩)
        go_ret
        first
          | exact ⟨rfl, HB1.out⟩
          | exact ⟨rfl, HB1.out.alloc HB1.out.size _⟩
          | exact ⟨rfl, (HB1.out.alloc HB1.out.size _).alloc (Nat.le_trans HB1.out.size (by simp)) _⟩
  · have hc := instr_no t hi ((w.alloc (.cells t.cs 89)).alloc (.cells #[.int .i64 at_, .int .i64 n] 122))
    have hw : wrongN t at_ n base = if n < 0 ∨ 65536 < at_ + n - base ∨ 4294967295 < at_ + n then 12 else 0 := by unfold wrongN; rw [if_neg (fun h => hi h.1)]
    rw [hw]
    have hd : (n < 0 ∧ (if n < 0 ∨ 65536 < at_ + n - base ∨ 4294967295 < at_ + n then (12 : Int) else 0) = 12) ∨ (¬ n < 0 ∧ 65536 < at_ + n - base ∧ (if n < 0 ∨ 65536 < at_ + n - base ∨ 4294967295 < at_ + n then (12 : Int) else 0) = 12) ∨ (¬ n < 0 ∧ ¬ 65536 < at_ + n - base ∧ 4294967295 < at_ + n ∧ (if n < 0 ∨ 65536 < at_ + n - base ∨ 4294967295 < at_ + n then (12 : Int) else 0) = 12) ∨ (¬ n < 0 ∧ ¬ 65536 < at_ + n - base ∧ ¬ 4294967295 < at_ + n ∧ (if n < 0 ∨ 65536 < at_ + n - base ∨ 4294967295 < at_ + n then (12 : Int) else 0) = 0) := by
      split <;> omega
    clear hw hi
    rcases hd with ⟨d1, hr⟩ | ⟨d1, d2, hr⟩ | ⟨d1, d2, d3, hr⟩ | ⟨d1, d2, d3, hr⟩
    all_goals
      rw [hr]
      clear hr
      go_enter Tryd.func54, Tryd.ntmps54
      go_wp2_with fail
      refine hc.mono ?_
      rintro e w1 ⟨rfl, hb1⟩
      have HB1 := Lib.hid (HB0.out.trans (hb1.mono (by simp; omega)))
      have e0 := hb1.cell (p := ⟨w.heap.size + 1, 0, none⟩) (by simp)
      have e1 := hb1.cell (p := ⟨w.heap.size + 1, 1, none⟩) (by simp)
      simp at e0 e1
      have hlt1 : w.heap.size + 1 < w1.heap.size := World.block_lt_of_cell? _ _ e0
      have hne : w1.heap.size ≠ w.heap.size + 1 := by omega
      clear hb1
      go_wp2_with (go_at_call 56; refine (end_any at_ n _ hs1 hs2).mono ?_; rintro e w2 ⟨rfl, rfl⟩)
      go_ret
      first
        | exact ⟨rfl, HB1.out⟩
        | exact ⟨rfl, HB1.out.alloc HB1.out.size _⟩
        | exact ⟨rfl, (HB1.out.alloc HB1.out.size _).alloc (Nat.le_trans HB1.out.size (by simp)) _⟩

/-- How many bytes are said of item k. -/
def sizeOf_ (S : Nat → Int) (m : Nat) (k : Nat) : Int := if k < m then S k else 0
def SzsIn (S : Nat → Int) (w : World) (A : Option Addr) (m : Nat) : Prop := ∀ j, j < m → ∃ B O, A = some ⟨B, O, none⟩ ∧ w.cell? ⟨B, O + j, none⟩ = some (.int .i64 (S j))
theorem SzsIn.below {S : Nat → Int} {w w' : World} {A : Option Addr} {m : Nat} (h : SzsIn S w A m) (hb : Below w.heap.size w w') : SzsIn S w' A m := by
  intro j hj
  obtain ⟨B, O, hA, hc⟩ := h j hj
  exact ⟨B, O, hA, (hb.cell (p := ⟨B, O + j, none⟩) (World.block_lt_of_cell? _ _ hc)).trans hc⟩

set_option maxRecDepth 100000 in
set_option maxHeartbeats 1000000 in
theorem said_any (S : Nat → Int) (A : Option Addr) (m cap k : Nat) (w : World) (h : SzsIn S w A m) :
    Calls Tryd.prog 58 #[.slice A m cap, .int .i64 k] w fun e w' => e = .returned (.int .i64 (min (max (sizeOf_ S m k) 0) 8)) ∧ w = w' := by
  unfold sizeOf_
  by_cases hk : k < m
  · rw [if_pos hk]
    obtain ⟨B, O, rfl, hc⟩ := h k hk
    have hs : (S k < 0 ∧ min (max (S k) 0) 8 = 0) ∨ (¬ S k < 0 ∧ S k ≤ 8 ∧ min (max (S k) 0) 8 = S k) ∨ (¬ S k < 0 ∧ ¬ S k ≤ 8 ∧ min (max (S k) 0) 8 = 8) := by omega
    clear h
    rcases hs with ⟨s0, hr⟩ | ⟨s0, s8, hr⟩ | ⟨s0, s8, hr⟩
    all_goals
      rw [hr]
      clear hr
      go_enter Tryd.func58, Tryd.ntmps58
      go_wp2
      go_ret
      exact ⟨rfl, rfl⟩
  · rw [if_neg hk]
    have hk' : (m : Int) ≤ k := by omega
    clear h hk
    go_enter Tryd.func58, Tryd.ntmps58
    go_wp2
    go_ret
    exact ⟨rfl, rfl⟩

set_option maxRecDepth 100000 in
theorem refAt_any (t : Itm) (c : Int) (w : World) :
    Calls Tryd.prog 57 #[.agg t.cs, .int .i64 c] w fun e w' => e = .returned (.agg #[.int .i64 t.L, .int .i64 t.C, .int .i64 c]) ∧ Below w.heap.size w w' := by
  go_enter Tryd.func57, Tryd.ntmps57
  go_wp2
  exact bodyPost_ret (v := .agg #[.int .i64 t.L, .int .i64 t.C, .int .i64 c]) (by simp [results, Tryd.results57, go_sem]) rfl ⟨rfl, ((Below.refl _ _).alloc (Nat.le_refl _) _).alloc (by simp) _⟩

set_option maxRecDepth 100000 in
set_option maxHeartbeats 8000000 in
theorem refClasses_any (t : Itm) (h : ¬ Lead t.K) (w : World) :
    Calls Tryd.prog 40 #[.agg t.cs] w (OneOut w (fixedN t)) := by
  obtain ⟨h4, h5, h6, hc⟩ := kinds_of t h
  clear h
  rcases hc with ⟨h9, hr⟩ | ⟨h9, h8, s1, hr⟩ | ⟨h9, h8, s1, s2, hr⟩ | ⟨h9, h8, s1, s2, hr⟩ | ⟨h9, h8, h2, s2, hr⟩ | ⟨h9, h8, h2, s2, hr⟩ | ⟨h9, h8, h2, h3, s2, hr⟩ | ⟨h9, h8, h2, h3, s2, hr⟩ | ⟨h9, h8, h2, h3, h7, hr⟩ | ⟨h9, h8, h2, h3, h7, hr⟩
  all_goals
    rw [hr]
    clear hr
    simp only [beq_iff_eq, beq_eq_false_iff_ne, ne_eq] at *
    go_enter Tryd.func40, Tryd.ntmps40
    go_wp2
    all_goals go_ret
    all_goals refine ⟨_, rfl, ?_, ((Below.refl _ _).alloc (Nat.le_refl _) _).alloc (by simp) _⟩
    all_goals first
      | simp; done
      | (simp; omega)
      | (exfalso; have hh : (t.sz == 1) = true ∨ (t.sz == 2) = true := by assumption
         simp at hh; omega)
end Go.Proofs.YtbhfblogjlpnlabDoor
