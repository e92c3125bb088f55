/-
  A slice of acts in the memory, and the law's light: where it says true, there are few cells and few bytes. Condition: a slice of bytes is no longer than a memory.
-/
import Derived.Test.YticfffndciddgaaMeLay
namespace Go.Proofs.Yticfffndciddgaa
open Go.RowKit Go.Maps

/-- An act: kind, address, width, number, bytes. -/
structure Act5 where
  k : Int
  a : Int
  n : Int
  v : Int
  B : Option Addr
  c : Nat
  bs : List Int
/-- A slice of acts. -/
structure ActsAt (w : World) (A : Option Addr) (l : List Act5) : Prop where
  at_ : ∀ i x, l[i]? = some x → ∃ g o, A = some ⟨g, o, none⟩ ∧ g < w.heap.size ∧ w.cell? ⟨g, o + i * 5, none⟩ = some (.int .i64 x.k) ∧ w.cell? ⟨g, o + i * 5 + 1, none⟩ = some (.int .u32 x.a) ∧ w.cell? ⟨g, o + i * 5 + 2, none⟩ = some (.int .i64 x.n) ∧ w.cell? ⟨g, o + i * 5 + 3, none⟩ = some (.int .u32 x.v) ∧ w.cell? ⟨g, o + i * 5 + 4, none⟩ = some (.slice x.B x.bs.length x.c)
  ok : ∀ x ∈ l, 0 ≤ x.a ∧ x.a ≤ 4294967295 ∧ 0 ≤ x.v ∧ x.v ≤ 4294967295 ∧ x.bs.length ≤ x.c ∧ x.c ≤ maxLen ∧ x.bs.length ≤ 140737488355328 ∧ BytesAt w x.B x.bs
theorem ActsAt.next {w w' : World} {A : Option Addr} {l : List Act5} (h : ActsAt w A l) (hb : Below w.heap.size w w') : ActsAt w' A l := by
  refine ⟨fun i x hx => ?_, fun x hx => ?_⟩
  · obtain ⟨g, o, q1, q2, q3, q4, q5, q6, q7⟩ := h.at_ i x hx
    exact ⟨g, o, q1, Nat.lt_of_lt_of_le q2 hb.size, (hb.cell (p := ⟨g, o + i * 5, none⟩) q2).trans q3, (hb.cell (p := ⟨g, o + i * 5 + 1, none⟩) q2).trans q4, (hb.cell (p := ⟨g, o + i * 5 + 2, none⟩) q2).trans q5, (hb.cell (p := ⟨g, o + i * 5 + 3, none⟩) q2).trans q6, (hb.cell (p := ⟨g, o + i * 5 + 4, none⟩) q2).trans q7⟩
  · obtain ⟨a, b, c, d, e, f, g, i⟩ := h.ok x hx
    exact ⟨a, b, c, d, e, f, g, i.next hb⟩

/-- How many bytes the acts may put. -/
def total (l : List Act5) : Nat := (l.map fun x => 4 + x.bs.length).sum
theorem total_snoc (l : List Act5) (x : Act5) : total (l ++ [x]) = total l + 4 + x.bs.length := by simp [total]; omega
theorem total_take (l : List Act5) (i : Nat) : total (l.take i) ≤ total l := by
  have e : total l = total (l.take i) + total (l.drop i) := by
    unfold total
    rw [← List.sum_append, ← List.map_append, List.take_append_drop]
  omega

/-- What light answers. -/
def LightOut (w : World) (n : Nat) (l : List Act5) (e : Ending) (w' : World) : Prop := ∃ q : Bool, e = .returned (.bool q) ∧ w' = w ∧ (q = true → n ≤ 300 ∧ n + total l ≤ 300)
theorem LightOut.no (w : World) (n : Nat) (l : List Act5) : LightOut w n l (.returned (.bool false)) w := ⟨false, rfl, rfl, fun q => by cases q⟩
theorem LightOut.yes {w : World} {n : Nat} {l : List Act5} (h : n ≤ 300) (k : n + total l ≤ 300) : LightOut w n l (.returned (.bool true)) w := ⟨true, rfl, rfl, fun _ => ⟨h, k⟩⟩

set_option maxRecDepth 100000 in
set_option maxHeartbeats 2000000 in
theorem light_is {w : World} {A C : Option Addr} {n cn m cm : Nat} {l : List Act5} (h : ActsAt w A l) (hm : l.length = m) (hmc : m ≤ cm) (hcm : cm ≤ maxLen) (hnc : n ≤ cn) (hcn : cn ≤ maxLen) :
    Calls Try.prog 8 #[.slice C n cn, .slice A m cm] w (LightOut w n l) := by
  have H := Lib.hid (And.intro h hm)
  have h1 : cm ≤ 9223372036854775807 := by unfold maxLen at hcm; omega
  have h2 : cn ≤ 9223372036854775807 := by unfold maxLen at hcn; omega
  clear h hm
  go_enter Try.func8, Try.ntmps8
  go_wp2_with fail
  go_loopg [5, 6] (m + 1) (fun fu vn vi wr => ∃ (i s : Nat), vn = .int .i64 s ∧ vi = .int .i64 i ∧ i ≤ m ∧ m + 1 ≤ i + fu ∧ wr = w ∧ s ≤ 9223372036854775807 ∧ Hid (s = n + total (l.take i)))
  case atStart => exact ⟨0, n, rfl, rfl, Nat.zero_le _, by omega, rfl, by omega, Lib.hid (by simp [total])⟩
  case round =>
    obtain ⟨i, s, rfl, rfl, hi, hf, rfl, hs, HS⟩ := hrel
    by_cases hlt : i < m
    · have hlti : (i : Int) < m := by omega
      have hltb : decide ((i : Int) < m) = true := decide_eq_true hlti
      have hic : (i : Int) < cm := by omega
      by_cases h3 : s ≤ 300
      · have h3i : (s : Int) ≤ 300 := by omega
        have h3b : decide ((s : Int) ≤ 300) = true := decide_eq_true h3i
        obtain ⟨x, hx⟩ : ∃ x, l[i]? = some x := ⟨_, List.getElem?_eq_getElem (H.out.2 ▸ hlt)⟩
        obtain ⟨g, o, rfl, hg, _, _, _, _, e4⟩ := H.out.1.at_ i x hx
        obtain ⟨_, _, _, _, hb1, hb2, hb3, _⟩ := H.out.1.ok x (List.mem_of_getElem? hx)
        have HX : Hid (s + 4 + x.bs.length = n + total (l.take (i + 1))) := Lib.hid (by
          rw [List.take_add_one, hx]
          simp only [Option.toList_some]
          rw [total_snoc, HS.out]
          omega)
        obtain ⟨L, hL⟩ : ∃ L, x.bs.length = L := ⟨_, rfl⟩
        rw [hL] at e4 hb1 hb3 HX
        clear hx hL hb1 hb2
        go_wp2_with fail
        go_roundg (m - i)
        case measure => omega
        case rel => exact ⟨i + 1, s + 4 + L, by go_num, by go_num, by omega, by omega, rfl, by omega, HX⟩
      · have h3i : ¬ (s : Int) ≤ 300 := by omega
        have h3b : decide ((s : Int) ≤ 300) = false := decide_eq_false h3i
        go_wp2_with fail
        all_goals
          go_ret
          exact LightOut.no _ _ _
    · have hlti : ¬ (i : Int) < m := by omega
      have hltb : decide ((i : Int) < m) = false := decide_eq_false hlti
      obtain rfl : i = m := by omega
      have hst : Hid (s = n + total l) := Lib.hid (by have := HS.out; rwa [List.take_of_length_le (Nat.le_of_eq H.out.2)] at this)
      by_cases hn3 : n ≤ 300
      · have hn3i : (n : Int) ≤ 300 := by omega
        by_cases h3 : s ≤ 300
        · have h3i : (s : Int) ≤ 300 := by omega
          have h3b : decide ((s : Int) ≤ 300) = true := decide_eq_true h3i
          have HY := Lib.hid (LightOut.yes (w := wr) hn3 (hst.out ▸ h3))
          go_wp2_with fail
          go_ret
          exact HY.out
        · have h3i : ¬ (s : Int) ≤ 300 := by omega
          have h3b : decide ((s : Int) ≤ 300) = false := decide_eq_false h3i
          go_wp2_with fail
          go_ret
          exact LightOut.no _ _ _
      · have hn3i : ¬ (n : Int) ≤ 300 := by omega
        go_wp2_with fail
        go_ret
        exact LightOut.no _ _ _
end Go.Proofs.Yticfffndciddgaa
