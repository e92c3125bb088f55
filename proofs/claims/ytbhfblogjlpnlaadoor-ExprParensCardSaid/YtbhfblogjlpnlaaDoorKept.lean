/-
  A law's last line, where two answers are held against each other: one call says whether they are the same, one makes an error's place and code, which is held against the reference's. What holds in every world behind the reference's answer.
-/
import Derived.Test.YtbhfblogjlpnlaaDoorErr2
import Derived.Laws.StructEq
import Derived.Deep.RegionHeld3
import Derived.Deep.DeepCutAuto
import Derived.ChangeKeysEq
namespace Go.Proofs.YtbhfblogjlpnlaaDoor
open Go.RowKit

theorem eql_faults (L C c : Int) (w : World) : (binOp .eql 30 (.agg #[.int .i64 L, .int .i64 C, .int .i64 c]) (.agg #[.int .i64 L, .int .i64 C, .int .i64 c])).run Tryd.prog w = .ok (.bool true) w := by
  have h1 : Tryd.prog.underlying 30 = some (.struct (Tryd.prog.fieldsOf 30)) := by kernel_rfl
  have h2 : Tryd.prog.stoodInHeld 30 = false := by kernel_rfl
  have h3 : (Tryd.prog.fieldsOf 30).toList = [⟨"Line", 3, 0, false, "", "", 0⟩, ⟨"Col", 3, 1, false, "", "", 8⟩, ⟨"Code", 3, 2, false, "", "", 16⟩] := by kernel_rfl
  have hp : Tryd.prog.plainKey 3 = true := by kernel_rfl
  have p0 := fun W => run_part_plain (P := Tryd.prog) (e := 3) hp (xs := #[.int .i64 L, .int .i64 C, .int .i64 c]) (off := 0) (v := .int .i64 L) (w := W) rfl
  have p1 := fun W => run_part_plain (P := Tryd.prog) (e := 3) hp (xs := #[.int .i64 L, .int .i64 C, .int .i64 c]) (off := 1) (v := .int .i64 C) (w := W) rfl
  have p2 := fun W => run_part_plain (P := Tryd.prog) (e := 3) hp (xs := #[.int .i64 L, .int .i64 C, .int .i64 c]) (off := 2) (v := .int .i64 c) (w := W) rfl
  rw [run_eql_struct, run_equalIn_struct _ _ _ _ _ h1 h2, h3]
  simp [Op.eqFields, p0, p1, p2, run_equalIn_int _ _ _ .i64 .i64 _ _ Tryd.underlying3]

/-- What holds in every world behind the reference's answer: its cells, what Fault answers of the error, and that the two answers are the same. -/
structure Kept (w3 : World) (L C c : Int) (v : Value) (g : FuncId) (args : Array Value) (W : World) : Prop where
  below : Below (w3.heap.size + 1) (w3.alloc (.cells #[.int .i64 L, .int .i64 C, .int .i64 c] 30)) W
  call : ∀ W', Below W.heap.size W W' → Calls Tryd.prog 15 #[v] W' fun e w'' => e = .returned (.agg #[.int .i64 L, .int .i64 C, .int .i64 c]) ∧ Below W'.heap.size W' w''
  same : ∀ W', Below W.heap.size W W' → Calls Tryd.prog g args W' fun e w'' => e = .returned (.bool true) ∧ Below W'.heap.size W' w''
section
variable {w3 : World} {L C c : Int} {v : Value} {g : FuncId} {args : Array Value} {W W' : World}
theorem Kept.size (h : Kept w3 L C c v g args W) : w3.heap.size + 1 ≤ W.heap.size := by simpa using h.below.size
theorem Kept.next (h : Kept w3 L C c v g args W) (hb : Below W.heap.size W W') : Kept w3 L C c v g args W' :=
  ⟨h.below.trans (hb.mono h.size), fun W2 h2 => h.call W2 (hb.trans (h2.mono hb.size)), fun W2 h2 => h.same W2 (hb.trans (h2.mono hb.size))⟩
theorem Kept.drew (h : Kept w3 L C c v g args W) : Kept w3 L C c v g args W.drew := h.next (Below.refl _ _).drew
theorem Kept.c0 (h : Kept w3 L C c v g args W) : W.cell? ⟨w3.heap.size, 0, none⟩ = some (.int .i64 L) := by
  have := h.below.cell (p := ⟨w3.heap.size, 0, none⟩) (by simp)
  simpa using this
theorem Kept.c1 (h : Kept w3 L C c v g args W) : W.cell? ⟨w3.heap.size, 1, none⟩ = some (.int .i64 C) := by
  have := h.below.cell (p := ⟨w3.heap.size, 1, none⟩) (by simp)
  simpa using this
theorem Kept.c2 (h : Kept w3 L C c v g args W) : W.cell? ⟨w3.heap.size, 2, none⟩ = some (.int .i64 c) := by
  have := h.below.cell (p := ⟨w3.heap.size, 2, none⟩) (by simp)
  simpa using this
theorem kept_call (h : Kept w3 L C c v g args W) :
    Calls Tryd.prog 15 #[v] W fun e w' => e = .returned (.agg #[.int .i64 L, .int .i64 C, .int .i64 c]) ∧ w'.cell? ⟨w3.heap.size, 0, none⟩ = some (.int .i64 L) ∧ w'.cell? ⟨w3.heap.size, 1, none⟩ = some (.int .i64 C) ∧ w'.cell? ⟨w3.heap.size, 2, none⟩ = some (.int .i64 c) ∧ Kept w3 L C c v g args w' :=
  (h.call W (Below.refl _ _)).mono fun _ _ ⟨he, hb⟩ => ⟨he, (h.next hb).c0, (h.next hb).c1, (h.next hb).c2, h.next hb⟩
theorem kept_same (h : Kept w3 L C c v g args W) :
    Calls Tryd.prog g args W fun e w' => e = .returned (.bool true) ∧ w'.cell? ⟨w3.heap.size, 0, none⟩ = some (.int .i64 L) ∧ w'.cell? ⟨w3.heap.size, 1, none⟩ = some (.int .i64 C) ∧ w'.cell? ⟨w3.heap.size, 2, none⟩ = some (.int .i64 c) ∧ Kept w3 L C c v g args w' :=
  (h.same W (Below.refl _ _)).mono fun _ _ ⟨he, hb⟩ => ⟨he, (h.next hb).c0, (h.next hb).c1, (h.next hb).c2, h.next hb⟩
end
end Go.Proofs.YtbhfblogjlpnlaaDoor
