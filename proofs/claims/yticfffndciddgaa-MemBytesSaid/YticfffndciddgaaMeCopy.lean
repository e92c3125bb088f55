/-
  The contract of (*Mem).Copy: another memory that holds the same. Condition: as of a memory.
-/
import Derived.Test.YticfffndciddgaaMeFacts
import Derived.Laws.Externs
import Derived.MapKept
namespace Go.Proofs.Yticfffndciddgaa
open Go.RowKit Go.Maps

theorem eq_map_nil (d : Nat) (t k e : TypeId) (p : Option Nat) (h : Try.prog.underlying t = some (.map k e)) (w : World) : (Op.equalIn (d + 1) t (.map p) (.map none)).run Try.prog w = .ok p.isNone w := by
  cases p <;> simp [Op.equalIn, run_underlying h]
theorem eql_map_nil (t k e : TypeId) (p : Option Nat) (h : Try.prog.underlying t = some (.map k e)) (w : World) : (binOp .eql t (.map p) (.map none)).run Try.prog w = .ok (.bool p.isNone) w := by
  simp only [binOp]
  simp [show Op.equal t (.map p) (.map none) = Op.equalIn (9999 + 1) t (.map p) (.map none) from rfl, eq_map_nil 9999 t k e p h]
theorem assert_map (t xT k e : TypeId) (v : Value) (h : Try.prog.underlying t = some (.map k e)) (w : World) : (Instr.typeAssert (.iface t v) xT t false).run Try.prog w = .ok v w := by
  simp [Instr.typeAssert, run_underlying h, go_sem, Result.andThen]
theorem clone_lays {r : Nat} {es : Array MapEntry} {clock : Nat} (t : TypeId) (w : World) (hb : w.heap[r]? = some (.map es clock)) :
    (Extern.MapsClone.clone #[.iface t (.map (some r))]).run Try.prog w = .ok (.iface t (.map (some w.heap.size))) (w.alloc (.map es clock)) := by
  have e : Extern.MapsClone.clone #[.iface t (.map (some r))] = (getObj r >>= fun o => match o with
      | .map entries clock => (newObj (.map entries clock) >>= fun n => pure (.iface t (.map (some n))))
      | _ => stuck "maps.clone: a map expected") := rfl
  rw [e]
  simp [MapKept.run_getObj_map hb, Result.andThen, go_sem]

set_option maxRecDepth 100000 in
set_option maxHeartbeats 2000000 in
theorem clone_is (b : Nat) (es : Array MapEntry) (clock : Nat) (w : World) (hb : w.heap[b]? = some (.map es clock)) :
    Calls Try.prog 28 #[.map (some b)] w fun e w' => e = .returned (.map (some w.heap.size)) ∧ w' = w.alloc (.map es clock) := by
  have hq := eql_map_nil 49 _ _ (some b) Try.underlying49
  go_enter Try.func28, Try.ntmps28
  go_wp2
  rw [run_callFunc_extern Try.func32 (by kernel_rfl) (by kernel_rfl) (by kernel_rfl) (e := Extern.MapsClone.clone) (by kernel_rfl), clone_lays 49 w hb]
  simp only [Result.andThen]
  rw [Oper.upon_value]
  go_wp2
  rw [assert_map 49 _ _ _ _ Try.underlying49]
  simp only [Result.andThen]
  rw [Oper.upon_value]
  go_wp2
  go_ret
  exact ⟨rfl, rfl⟩

set_option maxRecDepth 100000 in
set_option maxHeartbeats 2000000 in
theorem copy_is {w : World} {p b n : Nat} {f : Int → Int} (h : MemIs w p b n f) :
    Calls Try.prog 20 #[.pointer (some ⟨p, 0, none⟩)] w (NewOut w n f) := by
  obtain ⟨D, ⟨es, clock, hb, hF, hs, hD⟩, hDD⟩ := h.map
  have hc := h.cell
  have HC := Lib.hid (clone_is b es clock w hb)
  have H := Lib.hid h
  have HX := Lib.hid (And.intro hF (And.intro hs (And.intro hD hDD)))
  clear h hF hs hD hDD
  go_enter Try.func20, Try.ntmps20
  go_wp2_with (go_at_call 28; refine HC.out.mono ?_; rintro e w1 ⟨rfl, rfl⟩)
  go_ret
  obtain ⟨hF, hs, hD, hDD⟩ := HX.out
  refine NewOut.mk (p := w.heap.size + 1) (b := w.heap.size) (by omega) (by omega) ⟨?_, ⟨D, ?_, hDD⟩, H.out.byte⟩ (((Below.refl _ w).alloc (Nat.le_refl _) _).alloc (by simp) _)
  · simp
  · exact World.ownsMap.alloc ⟨es, clock, (MapKept.heap_alloc w _).1, hF, hs, hD⟩ _
end Go.Proofs.Yticfffndciddgaa
