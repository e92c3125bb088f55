/-
  The contract of block.End: where the block that begins at a line ends, and its Else, or the error at the place that is told. Conditions: at most 4000 lines, whose cells, and whose first tokens' cells, are there; the handle of the type error.
-/
import Derived.Test.YtccomiigdpfbpaaDoorPush
import Derived.Test.YtccomiigdpfbpaaDoorKind
namespace Go.Proofs.YtccomiigdpfbpaaDoor
open Go.RowKit

/-- What a line makes of what is open, the last one first. -/
def stepR (rest : List (Int × Int)) (a o : Int) (kind : Nat) (i : Int) : Option (List (Int × Int)) :=
  if kind = 7 then (if a = 5 then some rest else none) else if kind = 2 then (if a = 1 then some rest else none) else if kind = 4 then (if a = 3 then some rest else none) else
  if kind = 6 then (if a = 5 ∧ o < 0 then some ((a, i) :: rest) else none) else
  if kind = 1 ∨ kind = 3 ∨ kind = 5 then some (((kind : Int), -1) :: (a, o) :: rest) else some ((a, o) :: rest)
theorem stepS_R (rest : List (Int × Int)) (a o : Int) (kind : Nat) (i : Int) : stepS rest.reverse a o kind i = (stepR rest a o kind i).map List.reverse := by
  unfold stepS stepR
  repeat' split
  all_goals simp
theorem stepR_len {rest r : List (Int × Int)} {a o i : Int} {kind : Nat} (h : stepR rest a o kind i = some r) : r.length ≤ rest.length + 2 := by
  unfold stepR at h
  repeat' split at h
  all_goals first | cases h | skip
  all_goals simp

/-- Lines by their places: the slice of each, and its first token. -/
structure Lns where
  A : Nat → Option Addr
  len : Nat → Nat
  cap : Nat → Nat
  K : Nat → Int
  L : Nat → Int
  C : Nat → Int
  S : Nat → ByteArray
  N : Nat → Int
  Sc : Nat → Int
def Lns.kind (F : Lns) (i : Nat) : Nat := if F.len i = 0 then 0 else kindOf (F.K i) (F.S i)
def Lns.line (F : Lns) (i : Nat) : Int := if F.len i = 0 then 0 else F.L i
def Lns.col (F : Lns) (i : Nat) : Int := if F.len i = 0 then 0 else F.C i
structure Lns.At (F : Lns) (w : World) (B O i : Nat) : Prop where
  cell : w.cell? ⟨B, O + i, none⟩ = some (.slice (F.A i) (F.len i) (F.cap i))
  tok : 0 < F.len i → ∃ b o, F.A i = some ⟨b, o, none⟩ ∧ TokAt w b o (F.K i) (F.L i) (F.C i) (F.S i) (F.N i) (F.Sc i)
def Lns.In (F : Lns) (w : World) (B O n : Nat) : Prop := ∀ i, i < n → F.At w B O i
theorem Lns.In.below {F : Lns} {w w' : World} {B O n : Nat} (h : F.In w B O n) (hb : Below w.heap.size w w') : F.In w' B O n := fun i hi => by
  have h1 := h i hi
  refine ⟨(hb.cell (World.block_lt_of_cell? w _ h1.cell)).trans h1.cell, fun hl => ?_⟩
  obtain ⟨b, o, ha, ht⟩ := h1.tok hl
  exact ⟨b, o, ha, ht.keep (hb.block b (World.block_lt_of_cell? w _ ht.c0))⟩

theorem Lns.kind_le (F : Lns) (i : Nat) : F.kind i ≤ 7 := by
  unfold Lns.kind
  split
  · omega
  · exact kindOf_le _ _

theorem kindLine {F : Lns} {w : World} {B O i : Nat} (h : F.At w B O i) :
    Calls Tryd.prog 12 #[.slice (F.A i) (F.len i) (F.cap i)] w fun e w' => e = .returned (.int .i64 (F.kind i)) ∧ w = w' := by
  unfold Lns.kind
  by_cases hl : F.len i = 0
  · rw [if_pos hl, hl]
    exact kindOf_none _ _ _
  · rw [if_neg hl]
    obtain ⟨b, o, ha, ht⟩ := h.tok (by omega)
    rw [ha]
    exact kindOf_any b o _ _ (by omega) _ _ w ht.c0 ht.c3
theorem refKindLine {F : Lns} {w : World} {B O i : Nat} (h : F.At w B O i) :
    Calls Tryd.prog 13 #[.slice (F.A i) (F.len i) (F.cap i)] w (KindOut w (F.kind i)) := by
  unfold Lns.kind
  by_cases hl : F.len i = 0
  · rw [if_pos hl, hl]
    exact refKind_none _ _ _
  · rw [if_neg hl]
    obtain ⟨b, o, ha, ht⟩ := h.tok (by omega)
    rw [ha]
    exact refKind_any b o _ _ (by omega) _ _ w ht.c0 ht.c3
theorem errLine {F : Lns} {w : World} {B O i : Nat} (c : Int) (h : F.At w B O i) (hg : Handle w) :
    Calls Tryd.prog 18 #[.slice (F.A i) (F.len i) (F.cap i), .int .i64 0, .iface 46 (.int .i64 c)] w (ErrOut w (F.line i) (F.col i) c) := by
  unfold Lns.line Lns.col
  by_cases hl : F.len i = 0
  · rw [if_pos hl, if_pos hl, hl]
    exact atNext_none _ _ _ _ hg
  · rw [if_neg hl, if_neg hl]
    obtain ⟨b, o, ha, ht⟩ := h.tok (by omega)
    rw [ha]
    exact atNext_some b o _ _ (by omega) _ _ _ _ _ _ c w hg ht

/-- What End answers: an end and an Else, or an error's place. -/
inductive Res where
  | ok (k : Nat) (o : Int)
  | bad (L C : Int)

def lastOther (a o : Int) (rest : List (Int × Int)) : Int := (((a, o) :: rest).getLast (by simp)).2

def endRun (F : Lns) (n at_ k : Nat) (st : List (Int × Int)) : Res :=
  if _ : k < n then
    match st with
    | [] => .bad (F.line at_) (F.col at_)
    | (a, o) :: rest =>
      match stepR rest a o (F.kind k) k with
      | none => .bad (F.line k) (F.col k)
      | some [] => .ok k (lastOther a o rest)
      | some (x :: r) => endRun F n at_ (k + 1) (x :: r)
  else .bad (F.line at_) (F.col at_)
  termination_by n - k

def endSpec (F : Lns) (n : Nat) (i : Int) : Res :=
  if i < 0 ∨ (n : Int) ≤ i then .bad 0 0
  else if F.kind i.toNat = 1 ∨ F.kind i.toNat = 3 ∨ F.kind i.toNat = 5 then endRun F n i.toNat (i.toNat + 1) [((F.kind i.toNat : Int), -1)]
  else .bad (F.line i.toNat) (F.col i.toNat)

/-- The answer of End. -/
def EndOut (w0 : World) (r : Res) (e : Ending) (w' : World) : Prop :=
  match r with
  | .ok k o => e = .returned (.tuple #[.int .i64 k, .int .i64 o, .nilIface]) ∧ Below w0.heap.size w0 w'
  | .bad L C => ∃ b, e = .returned (.tuple #[.int .i64 0, .int .i64 0, .iface 55 (.pointer (some ⟨b, 0, none⟩))]) ∧ w0.heap.size ≤ b ∧ Blk w' b 60 #[.int .i64 L, .int .i64 C, .iface 46 (.int .i64 15)] ∧ Below w0.heap.size w0 w'

theorem Stk.bottom {w : World} {base g0 : Nat} {rest : List (Int × Int)} {a o : Int} (h : Stk w base g0 ((a, o) :: rest).reverse) :
    ∃ g cap, Blk w g0 51 #[.slice (some ⟨g, 0, none⟩) (rest.length + 1) cap] ∧ w.cell? ⟨g, 1, none⟩ = some (.int .i64 (lastOther a o rest)) := by
  obtain ⟨h0, v, hg0, g, cap, cur, rfl, hb, hg, hnc, hcm, hsz, ht, hcap⟩ := h
  have hl : ((a, o) :: rest).reverse.length = rest.length + 1 := by simp
  rw [hl] at hg0 hsz ht
  refine ⟨g, cap, hg0, ?_⟩
  have h1 : w.cell? ⟨g, 1, none⟩ = (stCells ((a, o) :: rest).reverse)[1]? := by
    rw [hg.cell 1, ← ht, List.getElem?_take, if_pos (by omega)]
    simp
  rw [h1]
  have hr : ((a, o) :: rest).reverse = ((a, o) :: rest).getLast (by simp) :: ((a, o) :: rest).dropLast.reverse := by
    conv => lhs; rw [← List.dropLast_concat_getLast (l := (a, o) :: rest) (by simp)]
    simp
  rw [hr]
  simp [stCells, lastOther]

set_option maxRecDepth 100000 in
set_option maxHeartbeats 1000000 in
theorem end_out (F : Lns) (A : Option Addr) (n cap : Nat) (i : Int) (w : World) (hg : Handle w) (hi : i < 0 ∨ (n : Int) ≤ i) :
    Calls Tryd.prog 9 #[.slice A n cap, .int .i64 i] w (EndOut w (endSpec F n i)) := by
  have hs : endSpec F n i = .bad 0 0 := by unfold endSpec; rw [if_pos hi]
  rw [hs]
  clear hs
  have hat := at_any 0 0 15 w hg
  rcases (show i < 0 ∨ (¬ i < 0 ∧ (n : Int) ≤ i) by omega) with h | ⟨h, h'⟩
  all_goals
    clear hi
    go_enter Tryd.func9, Tryd.ntmps9
    go_wp2_with (go_at_call 17; refine hat.mono ?_; rintro e w' ⟨b, rfl, h1, h2, h3⟩)
    go_ret3
    exact ⟨b, rfl, h1, h2, h3⟩
end Go.Proofs.YtccomiigdpfbpaaDoor
