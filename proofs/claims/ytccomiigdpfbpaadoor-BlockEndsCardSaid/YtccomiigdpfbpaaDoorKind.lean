/-
  The contracts of block.KindOf and of the reference's Kind: both answer the kind of a line by its first token. Conditions: the first token's cells are there.
-/
import Derived.Test.YtccomiigdpfbpaaDoorErr
import Derived.BigQuiet
import Derived.WalkSpells
import Derived.Deep.QuietTactic
namespace Go.Proofs.YtccomiigdpfbpaaDoor
open Go.RowKit

/-- The names of the kinds. -/
def nm : Nat → List UInt8
  | 1 => [46, 109, 97, 99, 114, 111]
  | 2 => [46, 101, 110, 100, 109]
  | 3 => [46, 114, 101, 112, 116]
  | 4 => [46, 101, 110, 100, 114]
  | 5 => [46, 105, 102]
  | 6 => [46, 101, 108, 115, 101]
  | 7 => [46, 101, 110, 100, 105, 102]
  | _ => []
/-- The kind that a name tells. -/
def nameOf (s : ByteArray) : Nat :=
  if (s.toList == nm 1) = true then 1 else if (s.toList == nm 2) = true then 2 else if (s.toList == nm 3) = true then 3 else if (s.toList == nm 4) = true then 4 else
  if (s.toList == nm 5) = true then 5 else if (s.toList == nm 6) = true then 6 else if (s.toList == nm 7) = true then 7 else 0
/-- The kind of a line whose first token is of that kind and text. -/
def kindOf (k : Int) (s : ByteArray) : Nat := if k = 1 then nameOf s else 0

theorem nameOf_le (s : ByteArray) : nameOf s ≤ 7 := by
  unfold nameOf
  repeat' (split; · omega)
  omega
theorem kindOf_le (k : Int) (s : ByteArray) : kindOf k s ≤ 7 := by
  unfold kindOf
  split
  · exact nameOf_le s
  · omega
theorem nameOf_hit (s : ByteArray) (j : Nat) (h1 : 1 ≤ j) (h7 : j ≤ 7) (h : (s.toList == nm j) = true) : nameOf s = j := by
  have he : s.toList = nm j := eq_of_beq h
  unfold nameOf
  rw [he]
  rcases (show j = 1 ∨ j = 2 ∨ j = 3 ∨ j = 4 ∨ j = 5 ∨ j = 6 ∨ j = 7 by omega) with rfl | rfl | rfl | rfl | rfl | rfl | rfl <;> rfl
theorem nameOf_miss (s : ByteArray) (j : Nat) (h1 : 1 ≤ j) (h : (s.toList == nm j) = false) (hj : nameOf s = 0 ∨ j ≤ nameOf s) : nameOf s = 0 ∨ j + 1 ≤ nameOf s := by
  rcases hj with hj | hj
  · exact .inl hj
  · right
    rcases Nat.lt_or_eq_of_le hj with hlt | heq
    · exact hlt
    · exfalso
      have hn : nameOf s = j := heq.symm
      have : (s.toList == nm j) = true := by
        unfold nameOf at hn
        by_cases e1 : (s.toList == nm 1) = true
        · rw [if_pos e1] at hn; rw [← hn]; exact e1
        rw [if_neg e1] at hn
        by_cases e2 : (s.toList == nm 2) = true
        · rw [if_pos e2] at hn; rw [← hn]; exact e2
        rw [if_neg e2] at hn
        by_cases e3 : (s.toList == nm 3) = true
        · rw [if_pos e3] at hn; rw [← hn]; exact e3
        rw [if_neg e3] at hn
        by_cases e4 : (s.toList == nm 4) = true
        · rw [if_pos e4] at hn; rw [← hn]; exact e4
        rw [if_neg e4] at hn
        by_cases e5 : (s.toList == nm 5) = true
        · rw [if_pos e5] at hn; rw [← hn]; exact e5
        rw [if_neg e5] at hn
        by_cases e6 : (s.toList == nm 6) = true
        · rw [if_pos e6] at hn; rw [← hn]; exact e6
        rw [if_neg e6] at hn
        by_cases e7 : (s.toList == nm 7) = true
        · rw [if_pos e7] at hn; rw [← hn]; exact e7
        rw [if_neg e7] at hn
        omega
      rw [h] at this
      cases this

theorem ret_int {a b : Int} (h : a = b) : Ending.returned (.int .i64 a) = .returned (.int .i64 b) := by rw [h]

set_option maxRecDepth 100000 in
theorem kindOf_none (A : Option Addr) (cap : Nat) (w : World) :
    Calls Tryd.prog 12 #[.slice A 0 cap] w fun e w' => e = .returned (.int .i64 0) ∧ w = w' := by
  go_enter Tryd.func12, Tryd.ntmps12
  go_wp2
  go_ret
  exact ⟨rfl, rfl⟩

set_option maxRecDepth 100000 in
theorem kindOf_other (b o len cap : Nat) (hlen : 0 < len) (k : Int) (w : World) (c0 : w.cell? ⟨b, o, none⟩ = some (.int .i64 k)) (hk : ¬ k = 1) :
    Calls Tryd.prog 12 #[.slice (some ⟨b, o, none⟩) len cap] w fun e w' => e = .returned (.int .i64 0) ∧ w = w' := by
  have hl : ((len : Int) == 0) = false := by simp; omega
  have hl2 : (0 : Int) < len := by omega
  have hk2 : (k != 1) = true := by simp [hk]
  clear hk
  go_enter Tryd.func12, Tryd.ntmps12
  go_wp2
  go_ret
  exact ⟨rfl, rfl⟩

set_option maxRecDepth 100000 in
set_option maxHeartbeats 1000000 in
theorem kindOf_name (b o len cap : Nat) (hlen : 0 < len) (k : Int) (s : ByteArray) (w : World) (c0 : w.cell? ⟨b, o, none⟩ = some (.int .i64 k)) (c3 : w.cell? ⟨b, o + 3, none⟩ = some (.string s)) (hk : k = 1) :
    Calls Tryd.prog 12 #[.slice (some ⟨b, o, none⟩) len cap] w fun e w' => e = .returned (.int .i64 (nameOf s)) ∧ w = w' := by
  have hl : ((len : Int) == 0) = false := by simp; omega
  have hl2 : (0 : Int) < len := by omega
  have hk2 : (k != 1) = false := by simp [hk]
  clear hk
  go_enter Tryd.func12, Tryd.ntmps12
  go_wp2
  all_goals
    go_ret
    exact ⟨ret_int (by simp [nameOf, nm, *]), rfl⟩

theorem kindOf_any (b o len cap : Nat) (hlen : 0 < len) (k : Int) (s : ByteArray) (w : World) (c0 : w.cell? ⟨b, o, none⟩ = some (.int .i64 k)) (c3 : w.cell? ⟨b, o + 3, none⟩ = some (.string s)) :
    Calls Tryd.prog 12 #[.slice (some ⟨b, o, none⟩) len cap] w fun e w' => e = .returned (.int .i64 (kindOf k s)) ∧ w = w' := by
  by_cases hk : k = 1
  · have h := kindOf_name b o len cap hlen k s w c0 c3 hk
    have e : kindOf k s = nameOf s := by unfold kindOf; rw [if_pos hk]
    rw [e]; exact h
  · have h := kindOf_other b o len cap hlen k w c0 hk
    have e : kindOf k s = 0 := by unfold kindOf; rw [if_neg hk]
    rw [e]; exact h

/-- The answer of the reference's Kind. -/
def KindOut (w0 : World) (n : Nat) (e : Ending) (w' : World) : Prop := e = .returned (.int .i64 n) ∧ Below w0.heap.size w0 w'

/-- The world behind the reference's table of names. -/
noncomputable def nmWorld (w : World) : World := w.alloc (.cells #[.string ⟨#[]⟩, .string ⟨#[46, 109, 97, 99, 114, 111]⟩, .string ⟨#[46, 101, 110, 100, 109]⟩, .string ⟨#[46, 114, 101, 112, 116]⟩, .string ⟨#[46, 101, 110, 100, 114]⟩, .string ⟨#[46, 105, 102]⟩, .string ⟨#[46, 101, 108, 115, 101]⟩, .string ⟨#[46, 101, 110, 100, 105, 102]⟩] 9)
theorem nmWorld_below (w : World) (m : Nat) : Below w.heap.size w ((nmWorld w).drewN m) := ((Below.refl _ _).alloc (Nat.le_refl _) _).trans ⟨rfl, rfl, rfl, Nat.le_refl _, fun _ _ => rfl⟩
theorem drewN_add (w : World) (m n : Nat) : (w.drewN m).drewN n = w.drewN (m + n) := by
  unfold World.drewN
  simp [Nat.add_assoc]
/-- The world in the loop, behind some draws. -/
def NmAt (w wr : World) : Prop := ∃ m, wr = (nmWorld w).drewN m
theorem NmAt.drewN {w wr : World} (h : NmAt w wr) (n : Nat) : NmAt w (wr.drewN n) := by
  obtain ⟨m, rfl⟩ := h
  exact ⟨m + n, drewN_add _ _ _⟩
theorem NmAt.below {w wr : World} (h : NmAt w wr) : Below w.heap.size w wr := by
  obtain ⟨m, rfl⟩ := h
  exact nmWorld_below w m
theorem NmAt.name {w wr : World} (h : NmAt w wr) (j : Nat) (h1 : 1 ≤ j) (h7 : j ≤ 7) : wr.cell? ⟨w.heap.size, j, none⟩ = some (.string ⟨(nm j).toArray⟩) := by
  obtain ⟨m, rfl⟩ := h
  show (nmWorld w).cell? _ = _
  unfold nmWorld
  rcases (show j = 1 ∨ j = 2 ∨ j = 3 ∨ j = 4 ∨ j = 5 ∨ j = 6 ∨ j = 7 by omega) with rfl | rfl | rfl | rfl | rfl | rfl | rfl <;> simp [nm]
theorem NmAt.old {w wr : World} (h : NmAt w wr) {a : Addr} {v : Value} (hv : w.cell? a = some v) : wr.cell? a = some v :=
  (h.below.cell (World.block_lt_of_cell? w a hv)).trans hv

set_option maxRecDepth 100000 in
set_option maxHeartbeats 1000000 in
theorem refKind_none (A : Option Addr) (cap : Nat) (w : World) :
    Calls Tryd.prog 13 #[.slice A 0 cap] w (KindOut w 0) := by
  go_enter Tryd.func13, Tryd.ntmps13
  go_wp2
  go_loopw [4] (fun i wr => ∃ j : Nat, 1 ≤ j ∧ j ≤ 8 ∧ i = .int .i64 j ∧ NmAt w wr) (fun i _ => 8 - (intOf i).toNat)
  case atStart => exact ⟨1, by omega, by omega, rfl, 0, rfl⟩
  case round =>
    obtain ⟨j, h1, h8, rfl, hw⟩ := hrel
    by_cases hj : j < 8
    · have hj2 : (j : Int) < 8 := by omega
      go_wp2
      go_quiet (fail)
      go_wp2
      go_roundw
      case rel => exact ⟨j + 1, by omega, by omega, by go_num, hw.drewN _⟩
      case measure => simp [intOf]; omega
    · have hj2 : ¬ (j : Int) < 8 := by omega
      go_wp2
      go_ret
      exact ⟨rfl, hw.below⟩

set_option maxRecDepth 100000 in
set_option maxHeartbeats 1000000 in
theorem refKind_other (b o len cap : Nat) (hlen : 0 < len) (k : Int) (w : World) (c0 : w.cell? ⟨b, o, none⟩ = some (.int .i64 k)) (hk : ¬ k = 1) :
    Calls Tryd.prog 13 #[.slice (some ⟨b, o, none⟩) len cap] w (KindOut w 0) := by
  have hl2 : decide ((0 : Int) < len) = true := by simp; omega
  have hl3 : (0 : Int) < len := by omega
  have hk2 : (k == 1) = false := by simp [hk]
  clear hk
  have HC := Lib.hid c0
  clear c0
  go_enter Tryd.func13, Tryd.ntmps13
  go_wp2
  go_loopw [4] (fun i wr => ∃ j : Nat, 1 ≤ j ∧ j ≤ 8 ∧ i = .int .i64 j ∧ NmAt w wr) (fun i _ => 8 - (intOf i).toNat)
  case atStart => exact ⟨1, by omega, by omega, rfl, 0, rfl⟩
  case round =>
    obtain ⟨j, h1, h8, rfl, hw⟩ := hrel
    by_cases hj : j < 8
    · have hj2 : (j : Int) < 8 := by omega
      have c0 := hw.old HC.out
      go_wp2
      go_quiet (fail)
      go_wp2
      go_roundw
      case rel => exact ⟨j + 1, by omega, by omega, by go_num, hw.drewN _⟩
      case measure => simp [intOf]; omega
    · have hj2 : ¬ (j : Int) < 8 := by omega
      go_wp2
      go_ret
      exact ⟨rfl, hw.below⟩

set_option maxRecDepth 100000 in
set_option maxHeartbeats 4000000 in
theorem refKind_name (b o len cap : Nat) (hlen : 0 < len) (k : Int) (s : ByteArray) (w : World) (c0 : w.cell? ⟨b, o, none⟩ = some (.int .i64 k)) (c3 : w.cell? ⟨b, o + 3, none⟩ = some (.string s)) (hk : k = 1) :
    Calls Tryd.prog 13 #[.slice (some ⟨b, o, none⟩) len cap] w (KindOut w (nameOf s)) := by
  have hl2 : decide ((0 : Int) < len) = true := by simp; omega
  have hl3 : (0 : Int) < len := by omega
  have hk2 : (k == 1) = true := by simp [hk]
  clear hk
  have HC := Lib.hid c0
  have HD := Lib.hid c3
  clear c0 c3
  go_enter Tryd.func13, Tryd.ntmps13
  go_wp2
  go_loopw [4] (fun i wr => ∃ j : Nat, 1 ≤ j ∧ j ≤ 8 ∧ i = .int .i64 j ∧ NmAt w wr ∧ Hid (nameOf s = 0 ∨ j ≤ nameOf s)) (fun i _ => 8 - (intOf i).toNat)
  case atStart => exact ⟨1, by omega, by omega, rfl, ⟨0, rfl⟩, show nameOf s = 0 ∨ 1 ≤ nameOf s by omega⟩
  case round =>
    obtain ⟨j, h1, h8, rfl, hw, hno⟩ := hrel
    by_cases hj : j < 8
    · have hj2 : (j : Int) < 8 := by omega
      have hj3 : (0 : Int) ≤ j := by omega
      have c0 := hw.old HC.out
      have c3 := hw.old HD.out
      have cn := hw.name j h1 (by omega)
      by_cases hm : (s.toList == nm j) = true
      · have HN : Hid (nameOf s = j) := nameOf_hit s j h1 (by omega) hm
        go_wp2
        go_quiet (fail)
        go_wp2
        go_ret
        exact ⟨by rw [HN.out]; rfl, (hw.drewN _).below⟩
      · have hm' : (s.toList == nm j) = false := by simpa using hm
        have HN : Hid (nameOf s = 0 ∨ j + 1 ≤ nameOf s) := nameOf_miss s j h1 hm' hno.out
        clear hm hno
        go_wp2
        go_quiet (fail)
        go_wp2
        go_roundw
        case rel => exact ⟨j + 1, by omega, by omega, by go_num, hw.drewN _, HN⟩
        case measure => simp [intOf]; omega
    · have hj2 : ¬ (j : Int) < 8 := by omega
      have HN : Hid (nameOf s = 0) := by
        have h1 := hno.out
        have h2 := nameOf_le s
        show nameOf s = 0
        omega
      go_wp2
      go_ret
      exact ⟨by rw [HN.out]; rfl, hw.below⟩

theorem refKind_any (b o len cap : Nat) (hlen : 0 < len) (k : Int) (s : ByteArray) (w : World) (c0 : w.cell? ⟨b, o, none⟩ = some (.int .i64 k)) (c3 : w.cell? ⟨b, o + 3, none⟩ = some (.string s)) :
    Calls Tryd.prog 13 #[.slice (some ⟨b, o, none⟩) len cap] w (KindOut w (kindOf k s)) := by
  by_cases hk : k = 1
  · have h := refKind_name b o len cap hlen k s w c0 c3 hk
    have e : kindOf k s = nameOf s := by unfold kindOf; rw [if_pos hk]
    rw [e]; exact h
  · have h := refKind_other b o len cap hlen k w c0 hk
    have e : kindOf k s = 0 := by unfold kindOf; rw [if_neg hk]
    rw [e]; exact h
end Go.Proofs.YtccomiigdpfbpaaDoor
