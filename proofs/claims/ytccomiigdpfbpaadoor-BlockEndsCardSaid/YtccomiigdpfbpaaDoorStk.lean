/-
  The contracts of the stack's shut, turn and take: what was opened last is closed, gets its Else, or a further one is opened. Conditions: the stack's variable and its row are in memory of the call's own; the stack is not empty.
-/
import Derived.Test.YtccomiigdpfbpaaDoorLine
import Derived.Test.YtccomiigdpfbpaaDoorErr
import Derived.ArgAppend
import Derived.BigQuiet
import Derived.Deep.QuietTactic
import Derived.WalkSpells
namespace Go.Proofs.YtccomiigdpfbpaaDoor
open Go.RowKit

set_option maxRecDepth 100000 in
theorem shut_no (g0 g n cap : Nat) (a k : Int) (w : World) (hn : n ≤ 6000) (hv : w.cell? ⟨g0, 0, none⟩ = some (.slice (some ⟨g, 0, none⟩) (n + 1) cap)) (ha : w.cell? ⟨g, n * 2, none⟩ = some (.int .i64 a)) (hne : ¬ a = k) :
    Calls Tryd.prog 27 #[.pointer (some ⟨g0, 0, none⟩), .int .i64 k] w fun e w' => e = .returned (.bool false) ∧ w = w' := by
  have hb : (a != k) = true := by simpa using hne
  clear hne
  go_enter Tryd.func27, Tryd.ntmps27
  go_wp2
  go_ret
  exact ⟨rfl, rfl⟩

set_option maxRecDepth 100000 in
theorem shut_yes (g0 g n cap : Nat) (a k : Int) (w : World) (hn : n ≤ 6000) (hcap : n + 1 ≤ cap) (hv : w.cell? ⟨g0, 0, none⟩ = some (.slice (some ⟨g, 0, none⟩) (n + 1) cap)) (hf : w.frozen? ⟨g0, 0, none⟩ = false) (ha : w.cell? ⟨g, n * 2, none⟩ = some (.int .i64 a)) (heq : a = k) :
    Calls Tryd.prog 27 #[.pointer (some ⟨g0, 0, none⟩), .int .i64 k] w fun e w' => e = .returned (.bool true) ∧ w' = w.setCell ⟨g0, 0, none⟩ (.slice (some ⟨g, 0, none⟩) n n) := by
  have hb : (a != k) = false := by simpa using heq
  clear heq
  go_enter Tryd.func27, Tryd.ntmps27
  go_wp2
  go_ret
  exact ⟨rfl, rfl⟩

/-- A world behind some draws. -/
def Drawn (w w' : World) : Prop := ∃ n, w' = w.drewN n
theorem Drawn.below {w w' : World} (h : Drawn w w') (B : Nat) : Below B w w' := by
  obtain ⟨n, rfl⟩ := h
  exact ⟨rfl, rfl, rfl, Nat.le_refl _, fun _ _ => rfl⟩

set_option maxRecDepth 100000 in
theorem turn_no (g0 g n cap : Nat) (a o i : Int) (w : World) (hn : n ≤ 6000) (hv : w.cell? ⟨g0, 0, none⟩ = some (.slice (some ⟨g, 0, none⟩) (n + 1) cap)) (ha : w.cell? ⟨g, n * 2, none⟩ = some (.int .i64 a)) (ho : w.cell? ⟨g, n * 2 + 1, none⟩ = some (.int .i64 o)) (hne : ¬ a = 5 ∨ 0 ≤ o) :
    Calls Tryd.prog 28 #[.pointer (some ⟨g0, 0, none⟩), .int .i64 i] w fun e w' => e = .returned (.bool false) ∧ Drawn w w' := by
  by_cases h5 : a = 5
  · have hb : (a != 5) = false := by simpa using h5
    have h0 : 0 ≤ o := by omega
    clear hne h5
    go_enter Tryd.func28, Tryd.ntmps28
    go_wp2
    go_quiet (fail)
    go_wp2
    go_ret
    exact ⟨rfl, _, rfl⟩
  · have hb : (a != 5) = true := by simpa using h5
    clear hne h5
    go_enter Tryd.func28, Tryd.ntmps28
    go_wp2
    go_quiet (fail)
    go_wp2
    go_ret
    exact ⟨rfl, _, rfl⟩

set_option maxRecDepth 100000 in
theorem turn_yes (g0 g n cap : Nat) (a o i : Int) (w : World) (hn : n ≤ 6000) (hv : w.cell? ⟨g0, 0, none⟩ = some (.slice (some ⟨g, 0, none⟩) (n + 1) cap)) (ha : w.cell? ⟨g, n * 2, none⟩ = some (.int .i64 a)) (ho : w.cell? ⟨g, n * 2 + 1, none⟩ = some (.int .i64 o)) (hf : w.frozen? ⟨g, n * 2 + 1, none⟩ = false) (h5 : a = 5) (h0 : o < 0) :
    Calls Tryd.prog 28 #[.pointer (some ⟨g0, 0, none⟩), .int .i64 i] w fun e w' => e = .returned (.bool true) ∧ ∃ m, w' = (w.drewN m).setCell ⟨g, n * 2 + 1, none⟩ (.int .i64 i) := by
  have hb : (a != 5) = false := by simpa using h5
  have h0' : ¬ 0 ≤ o := by omega
  clear h5
  go_enter Tryd.func28, Tryd.ntmps28
  go_wp2
  go_quiet (fail)
  go_wp2
  go_ret
  exact ⟨rfl, _, rfl⟩

/-- The cells of a stack. -/
def stCells (st : List (Int × Int)) : List Value := st.flatMap fun x => [.int .i64 x.1, .int .i64 x.2]
theorem stCells_len (st : List (Int × Int)) : (stCells st).length = st.length * 2 := by
  unfold stCells
  induction st with
  | nil => rfl
  | cons p ps ih => rw [List.flatMap_cons, List.length_append, ih]; simp; omega
theorem stCells_snoc (st : List (Int × Int)) (x : Int × Int) : stCells (st ++ [x]) = stCells st ++ [.int .i64 x.1, .int .i64 x.2] := by simp [stCells]

/-- A slice that holds a stack: what was made by an append, or what is cut to its length. -/
def RowS (w : World) (base : Nat) (v : Value) (st : List (Int × Int)) : Prop :=
  ∃ g cap cur, v = .slice (some ⟨g, 0, none⟩) st.length cap ∧ base ≤ g ∧ Blk w g 49 cur ∧ st.length ≤ cap ∧ cap ≤ maxLen ∧ st.length * 2 ≤ cur.size ∧ cur.toList.take (st.length * 2) = stCells st ∧ (cur.size = cap * 2 ∨ cap = st.length)
/-- The stack's variable. -/
def Stk (w : World) (base g0 : Nat) (st : List (Int × Int)) : Prop := base ≤ g0 ∧ ∃ v, Blk w g0 51 #[v] ∧ RowS w base v st

theorem RowS.keep {w w' : World} {base : Nat} {v : Value} {st : List (Int × Int)} (h : RowS w base v st) (hk : ∀ g, v.ownBlock = some g → w'.heap[g]? = w.heap[g]?) : RowS w' base v st := by
  obtain ⟨g, cap, cur, rfl, hb, hg, r⟩ := h
  exact ⟨g, cap, cur, rfl, hb, (hk g rfl).trans hg, r⟩
theorem RowS.lt {w : World} {base : Nat} {v : Value} {st : List (Int × Int)} (h : RowS w base v st) : ∃ g, v.ownBlock = some g ∧ g < w.heap.size := by
  obtain ⟨g, cap, cur, rfl, hb, hg, r⟩ := h
  exact ⟨g, rfl, hg.lt⟩
theorem Stk.below {w w' : World} {base g0 : Nat} {st : List (Int × Int)} (h : Stk w base g0 st) (hb : Below w.heap.size w w') : Stk w' base g0 st := by
  obtain ⟨h0, v, hg, hr⟩ := h
  obtain ⟨g, hv, hlt⟩ := hr.lt
  exact ⟨h0, v, hg.below hb hg.lt, hr.keep fun g' hg' => by
    rw [hv] at hg'
    cases hg'
    exact hb.block g hlt⟩
theorem RowS.of_own {w : World} {base : Nat} {v : Value} {st : List (Int × Int)} (h : w.ownsRow base 49 2 v st.length (stCells st)) (hne : st ≠ []) : RowS w base v st := by
  rcases h.2 with ⟨rfl, hn⟩ | ⟨g, cap, cur, rfl, hb, hg, hnc, hcm, hcs, ht⟩
  · exact absurd (List.eq_nil_of_length_eq_zero hn) hne
  · exact ⟨g, cap, cur, rfl, hb, hg, hnc, hcm, by rw [hcs]; exact Nat.mul_le_mul_right _ hnc, ht, .inl hcs⟩
end Go.Proofs.YtccomiigdpfbpaaDoor
