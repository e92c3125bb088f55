/-
  The contract of the stack's take: a line of some kind changes the stack as the document says, or may not stand there. Conditions: the stack's variable and its row are in memory of the call's own; the stack is not empty, and holds at most 5000.
-/
import Derived.Test.YtccomiigdpfbpaaDoorStk
namespace Go.Proofs.YtccomiigdpfbpaaDoor
open Go.RowKit

/-- What a line of that kind makes of a stack; none: it may not stand there. -/
def stepS (pre : List (Int × Int)) (a o : Int) (kind : Nat) (i : Int) : Option (List (Int × Int)) :=
  if kind = 7 then (if a = 5 then some pre else none) else if kind = 2 then (if a = 1 then some pre else none) else if kind = 4 then (if a = 3 then some pre else none) else
  if kind = 6 then (if a = 5 ∧ o < 0 then some (pre ++ [(a, i)]) else none) else
  if kind = 1 ∨ kind = 3 ∨ kind = 5 then some (pre ++ [(a, o)] ++ [((kind : Int), -1)]) else some (pre ++ [(a, o)])

/-- The answer of take. -/
def TakeOut (w0 : World) (base g0 : Nat) (r : Option (List (Int × Int))) (e : Ending) (w' : World) : Prop :=
  match r with
  | none => e = .returned (.bool false) ∧ Below base w0 w'
  | some st => e = .returned (.bool true) ∧ Stk w' base g0 st ∧ Below base w0 w'

/-- What a stack that is not empty gives a walk. -/
theorem Stk.parts {w : World} {base g0 : Nat} {pre : List (Int × Int)} {a o : Int} (h : Stk w base g0 (pre ++ [(a, o)])) :
    ∃ g cap cur, base ≤ g0 ∧ base ≤ g ∧ g ≠ g0 ∧ Blk w g0 51 #[.slice (some ⟨g, 0, none⟩) (pre.length + 1) cap] ∧ Blk w g 49 cur ∧ pre.length + 1 ≤ cap ∧ cap ≤ maxLen ∧ (pre.length + 1) * 2 ≤ cur.size ∧
      cur.toList.take ((pre.length + 1) * 2) = stCells pre ++ [.int .i64 a, .int .i64 o] ∧ (cur.size = cap * 2 ∨ cap = pre.length + 1) ∧
      w.cell? ⟨g, pre.length * 2, none⟩ = some (.int .i64 a) ∧ w.cell? ⟨g, pre.length * 2 + 1, none⟩ = some (.int .i64 o) := by
  obtain ⟨h0, v, hg0, g, cap, cur, rfl, hb, hg, hnc, hcm, hsz, ht, hcap⟩ := h
  have hl : (pre ++ [(a, o)]).length = pre.length + 1 := by simp
  rw [hl] at hnc hsz ht hcap hg0
  rw [stCells_snoc] at ht
  have hat : ∀ j, j < (pre.length + 1) * 2 → w.cell? ⟨g, j, none⟩ = (stCells pre ++ [.int .i64 a, .int .i64 o])[j]? := by
    intro j hj
    rw [hg.cell j, ← ht, List.getElem?_take, if_pos hj]
    simp
  refine ⟨g, cap, cur, h0, hb, ?_, hg0, hg, hnc, hcm, hsz, ht, hcap, ?_, ?_⟩
  · intro e
    subst e
    unfold Blk at hg hg0
    rw [hg] at hg0
    injection hg0 with hg0
    injection hg0 with _ hty
    exact absurd hty (by decide)
  · rw [hat _ (by omega), List.getElem?_append_right (by rw [stCells_len]; exact Nat.le_refl _), stCells_len]
    simp
  · rw [hat _ (by omega), List.getElem?_append_right (by rw [stCells_len]; omega), stCells_len]
    simp

theorem take_take_pre (pre : List (Int × Int)) (cur : Array Value) (x y : Value) (ht : cur.toList.take ((pre.length + 1) * 2) = stCells pre ++ [x, y]) : cur.toList.take (pre.length * 2) = stCells pre := by
  have h := congrArg (List.take (pre.length * 2)) ht
  rw [List.take_take, Nat.min_eq_left (by omega), List.take_append_of_le_length (by rw [stCells_len]; exact Nat.le_refl _)] at h
  rw [h]
  exact List.take_of_length_le (by rw [stCells_len]; exact Nat.le_refl _)

/-- Behind shut. -/
theorem Stk.shut {w : World} {base g0 g cap : Nat} {cur : Array Value} {pre : List (Int × Int)} {v x y : Value} (h0 : base ≤ g0) (hb : base ≤ g) (hne : g ≠ g0) (hg0 : Blk w g0 51 #[v]) (hg : Blk w g 49 cur)
    (hsz : (pre.length + 1) * 2 ≤ cur.size) (ht : cur.toList.take ((pre.length + 1) * 2) = stCells pre ++ [x, y]) (hcm : pre.length + 1 ≤ cap) (hcm2 : cap ≤ maxLen) :
    Stk (w.setCell ⟨g0, 0, none⟩ (.slice (some ⟨g, 0, none⟩) pre.length pre.length)) base g0 pre :=
  ⟨h0, _, one_setCell hg0, g, pre.length, cur, rfl, hb, hg.far hne _, Nat.le_refl _, by omega, by omega, take_take_pre pre cur x y ht, .inr rfl⟩

theorem toList_set_take {α : Type} (cur : Array α) (n m : Nat) (u : α) (h : n < m) : (cur.setIfInBounds n u).toList.take m = (cur.toList.take m).set n u := by
  rw [Array.toList_setIfInBounds]
  apply List.ext_getElem?
  intro j
  simp only [List.getElem?_take, List.getElem?_set, List.length_take, Array.length_toList]
  by_cases hj : j < m
  · by_cases e : n = j
    · subst e
      simp [hj]
      by_cases hs : n < cur.size
      · rw [if_pos hs, if_pos (by omega)]
      · rw [if_neg hs, if_neg (by omega)]
    · simp [hj, e]
  · by_cases e : n = j
    · omega
    · simp [hj, e]

/-- Behind turn. -/
theorem Stk.turn {w : World} {base g0 g cap : Nat} {cur : Array Value} {pre : List (Int × Int)} {a o i : Int} (h0 : base ≤ g0) (hb : base ≤ g) (hne : g ≠ g0) (hg0 : Blk w g0 51 #[.slice (some ⟨g, 0, none⟩) (pre.length + 1) cap]) (hg : Blk w g 49 cur)
    (hnc : pre.length + 1 ≤ cap) (hcm : cap ≤ maxLen) (hsz : (pre.length + 1) * 2 ≤ cur.size) (ht : cur.toList.take ((pre.length + 1) * 2) = stCells pre ++ [.int .i64 a, .int .i64 o]) (hcap : cur.size = cap * 2 ∨ cap = pre.length + 1) :
    Stk (w.setCell ⟨g, pre.length * 2 + 1, none⟩ (.int .i64 i)) base g0 (pre ++ [(a, i)]) := by
  have hset : Blk (w.setCell ⟨g, pre.length * 2 + 1, none⟩ (.int .i64 i)) g 49 (cur.setIfInBounds (pre.length * 2 + 1) (.int .i64 i)) := by
    unfold Blk at hg ⊢
    simp [World.setCell, Array.getElem?_modify, hg]
  refine ⟨h0, _, hg0.far (Ne.symm hne) _, g, cap, _, by simp, hb, hset, by simpa using hnc, hcm, by simpa using hsz, ?_, by simpa using hcap⟩
  have hl : (pre ++ [(a, i)]).length = pre.length + 1 := by simp
  rw [hl, stCells_snoc, toList_set_take _ _ _ _ (by omega), ht, List.set_append_right _ _ (by rw [stCells_len]; omega), stCells_len]
  simp

/-- Behind an append and a store. -/
theorem Stk.push {w : World} {base g0 : Nat} {st : List (Int × Int)} {v v' : Value} {k : Int} (h0 : base ≤ g0) (hg0 : Blk w g0 51 #[v]) (hown : w.ownsRow base 49 2 v' (st.length + 1) (stCells st ++ [.int .i64 k, .int .i64 (-1)])) :
    Stk (w.setCell ⟨g0, 0, none⟩ v') base g0 (st ++ [(k, -1)]) := by
  have hown2 : w.ownsRow base 49 2 v' (st ++ [(k, -1)]).length (stCells (st ++ [(k, -1)])) := by
    rw [stCells_snoc, List.length_append]; exact hown
  have hr := RowS.of_own hown2 (by simp)
  refine ⟨h0, v', one_setCell hg0, hr.keep fun g hg => ?_⟩
  have hne : g ≠ g0 := by
    rintro rfl
    rcases hown.2 with ⟨rfl, _⟩ | ⟨g', cap, cur, rfl, _, hh, _⟩
    · cases hg
    · simp [Value.ownBlock] at hg
      subst hg
      unfold Blk at hg0
      rw [hh] at hg0
      injection hg0 with hg0
      injection hg0 with _ hty
      exact absurd hty (by decide)
  exact Below.heap_setCell _ _ _ _ hne

theorem Tryd.infoOpened : (Tryd.prog.info? 49).map (fun i => (i.zero, i.size, i.bytes)) = some (some (.agg #[.int .i64 0, .int .i64 0]), 2, 16) := by kernel_rfl

set_option maxRecDepth 100000 in
set_option maxHeartbeats 2000000 in
/-- take at the end of a macro or a repetition, or of an If. -/
theorem take_shut (base g0 : Nat) (pre : List (Int × Int)) (a o : Int) (kind : Nat) (opener i : Int) (w : World) (hn : pre.length ≤ 5000) (h : Stk w base g0 (pre ++ [(a, o)])) (hk : (kind = 7 ∧ opener = 5) ∨ (kind = 2 ∧ opener = 1) ∨ (kind = 4 ∧ opener = 3)) :
    Calls Tryd.prog 19 #[.pointer (some ⟨g0, 0, none⟩), .int .i64 kind, .int .i64 i] w (TakeOut w base g0 (if a = opener then some pre else none)) := by
  obtain ⟨g, cap, cur, h0, hb, hne, hg0, hg, hnc, hcm, hsz, ht, hcap, ca, co⟩ := h.parts
  have hv := hg0.cell 0
  simp at hv
  have hf := hg0.frozen 0
  have hS := Stk.shut h0 hb hne hg0 hg hsz ht hnc hcm
  have HS := Lib.hid hS
  have H0 := Lib.hid h0
  clear hS h0 hb hg0 hg hcm hsz ht hcap h
  by_cases ha : a = opener
  · rw [if_pos ha]
    have hcall := shut_yes g0 g pre.length cap a opener w (by omega) hnc hv hf ca ha
    clear ha
    rcases hk with ⟨rfl, rfl⟩ | ⟨rfl, rfl⟩ | ⟨rfl, rfl⟩
    all_goals
      go_enter Tryd.func19, Tryd.ntmps19
      go_wp2_with (go_at_call 27; refine hcall.mono ?_; rintro e w' ⟨rfl, rfl⟩)
      go_ret
      exact ⟨rfl, HS.out, (Below.refl _ _).setCell H0.out _⟩
  · rw [if_neg ha]
    have hcall := shut_no g0 g pre.length cap a opener w (by omega) hv ca ha
    clear ha
    rcases hk with ⟨rfl, rfl⟩ | ⟨rfl, rfl⟩ | ⟨rfl, rfl⟩
    all_goals
      go_enter Tryd.func19, Tryd.ntmps19
      go_wp2_with (go_at_call 27; refine hcall.mono ?_; rintro e w' ⟨rfl, rfl⟩)
      go_ret
      exact ⟨rfl, Below.refl _ _⟩

set_option maxRecDepth 100000 in
set_option maxHeartbeats 2000000 in
/-- take at an Else. -/
theorem take_else (base g0 : Nat) (pre : List (Int × Int)) (a o i : Int) (w : World) (hn : pre.length ≤ 5000) (h : Stk w base g0 (pre ++ [(a, o)])) :
    Calls Tryd.prog 19 #[.pointer (some ⟨g0, 0, none⟩), .int .i64 6, .int .i64 i] w (TakeOut w base g0 (if a = 5 ∧ o < 0 then some (pre ++ [(a, i)]) else none)) := by
  obtain ⟨g, cap, cur, h0, hb, hne, hg0, hg, hnc, hcm, hsz, ht, hcap, ca, co⟩ := h.parts
  have hv := hg0.cell 0
  simp at hv
  have hf := hg.frozen (pre.length * 2 + 1)
  have hS : ∀ m, Stk ((w.drewN m).setCell ⟨g, pre.length * 2 + 1, none⟩ (.int .i64 i)) base g0 (pre ++ [(a, i)]) := fun m => Stk.turn (w := w.drewN m) h0 hb hne hg0 hg hnc hcm hsz ht hcap
  have HS := Lib.hid hS
  have H0 := Lib.hid hb
  clear hS h0 hb hg0 hg hcm hsz ht hcap h hnc
  by_cases ha : a = 5 ∧ o < 0
  · rw [if_pos ha]
    have hcall := turn_yes g0 g pre.length cap a o i w (by omega) hv ca co hf ha.1 ha.2
    clear ha
    go_enter Tryd.func19, Tryd.ntmps19
    go_wp2_with (go_at_call 28; refine hcall.mono ?_; rintro e w' ⟨rfl, m, rfl⟩)
    go_ret
    exact ⟨rfl, HS.out _, Below.setCell (Drawn.below ⟨_, rfl⟩ _) H0.out _⟩
  · rw [if_neg ha]
    have hcall := turn_no g0 g pre.length cap a o i w (by omega) hv ca co (by omega)
    clear ha
    go_enter Tryd.func19, Tryd.ntmps19
    go_wp2_with (go_at_call 28; refine hcall.mono ?_; rintro e w' ⟨rfl, hd⟩)
    go_ret
    exact ⟨rfl, hd.below _⟩

set_option maxRecDepth 100000 in
/-- take at a line that is Plain. -/
theorem take_plain (base g0 : Nat) (st : List (Int × Int)) (i : Int) (w : World) (h : Stk w base g0 st) :
    Calls Tryd.prog 19 #[.pointer (some ⟨g0, 0, none⟩), .int .i64 0, .int .i64 i] w (TakeOut w base g0 (some st)) := by
  go_enter Tryd.func19, Tryd.ntmps19
  go_wp2
  go_ret
  exact ⟨rfl, h, Below.refl _ _⟩
end Go.Proofs.YtccomiigdpfbpaaDoor
