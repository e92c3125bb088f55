/-
  The contracts of fault.At, and of the law's own Fault at nil, over an error that is an api.Code. Conditions: the variable errors.errorType holds the handle of the type error; the cells that are read are there.
-/
import Derived.Test.YtbhfblogjlpnlaaDoorAs
import Derived.Below
import Derived.Laws.OwnMore
import Derived.Deep.Draws
import Derived.Laws.Rows
import Derived.RegionTactic
import Derived.BigRegion
import Derived.Lib.Hide
namespace Go.Proofs.YtbhfblogjlpnlaaDoor
open Go.RowKit

/-- Block g is just these cells of that element type, none frozen. -/
def Blk (w : World) (g : Nat) (t : TypeId) (cs : Array Value) : Prop := w.heap[g]? = some (.cells cs t (0, 0))
section
variable {w w' : World} {g : Nat} {t : TypeId} {cs : Array Value}
theorem Blk.lt (h : Blk w g t cs) : g < w.heap.size := by
  rcases Nat.lt_or_ge g w.heap.size with hlt | hge
  · exact hlt
  · unfold Blk at h; rw [Array.getElem?_eq_none hge] at h; cases h
theorem Blk.cell (h : Blk w g t cs) (i : Nat) : w.cell? ⟨g, i, none⟩ = cs[i]? := cell_of_row w g i cs t (0, 0) h
theorem Blk.frozen (h : Blk w g t cs) (i : Nat) : w.frozen? ⟨g, i, none⟩ = false := by
  unfold Blk at h
  simp [World.frozen?, h]
theorem Blk.new (w : World) (t : TypeId) (cs : Array Value) : Blk (w.alloc (.cells cs t)) w.heap.size t cs := heap_alloc_new w _
theorem Blk.alloc (h : Blk w g t cs) (o : Obj) : Blk (w.alloc o) g t cs := (Below.heap_alloc w o g h.lt).trans h
theorem Blk.far (h : Blk w g t cs) {p : Addr} (hp : g ≠ p.block) (u : Value) : Blk (w.setCell p u) g t cs := (Below.heap_setCell w p u g hp).trans h
theorem Blk.below {B : Nat} (h : Blk w g t cs) (hb : Below B w w') (hg : g < B) : Blk w' g t cs := (hb.block g hg).trans h
end

theorem Handle.pos {w : World} (h : Handle w) : 0 < w.heap.size := lt_of_handle h
theorem Handle.below {B : Nat} {w w' : World} (h : Handle w) (hb : Below B w w') (h0 : 0 < B) : Handle w' := (hb.cell (p := ⟨0, 0, none⟩) h0).trans h
theorem Handle.alloc {w : World} (h : Handle w) (o : Obj) : Handle (w.alloc o) := h.below ((Below.refl _ _).alloc (Nat.le_refl _) o) h.pos

theorem asMiss_below (w : World) (t : Addr) : Below w.heap.size w (asMissWorld w t) := by
  unfold asMissWorld
  exact (((Below.refl _ _).alloc (Nat.le_refl _) _).alloc (by simp) _).alloc (by simp; omega) _

/-- A new *api.Fault of that line, column and code, in memory of the call's own. -/
def ErrOut (w0 : World) (L C c : Int) (e : Ending) (w' : World) : Prop :=
  ∃ b, e = .returned (.iface 63 (.pointer (some ⟨b, 0, none⟩))) ∧ w0.heap.size ≤ b ∧ Blk w' b 68 #[.int .i64 L, .int .i64 C, .iface 56 (.int .i64 c)] ∧ Below w0.heap.size w0 w'
theorem ErrOut.from_ {w0 w1 : World} {L C c : Int} {e : Ending} {w' : World} (h : ErrOut w1 L C c e w') (hb : Below w0.heap.size w0 w1) : ErrOut w0 L C c e w' := by
  obtain ⟨b, he, hs, hk, hb'⟩ := h
  exact ⟨b, he, Nat.le_trans hb.size hs, hk, hb.trans (hb'.mono hb.size)⟩

set_option maxRecDepth 100000 in
theorem at_any (L C c : Int) (w : World) (hg : Handle w) :
    Calls Tryd.prog 22 #[.int .i64 L, .int .i64 C, .iface 56 (.int .i64 c)] w (ErrOut w L C c) := by
  have hg1 : Handle (w.alloc (.cells #[.pointer none] 63)) := hg.alloc _
  have hbel : Below w.heap.size w (asMissWorld (w.alloc (.cells #[.pointer none] 63)) ⟨w.heap.size, 0, none⟩) :=
    ((Below.refl _ _).alloc (Nat.le_refl _) _).trans ((asMiss_below _ _).mono (by simp))
  have HB := Lib.hid hbel
  clear hbel
  go_enter Tryd.func22, Tryd.ntmps22
  go_wp2_with (go_at_call 26; refine (as_miss c _ _ hg1).mono ?_; rintro e w' ⟨rfl, rfl⟩)
  go_ret
  exact ⟨_, rfl, HB.out.size, Blk.new _ _ _, HB.out.alloc HB.out.size _⟩

set_option maxRecDepth 100000 in
theorem fault_nil (w : World) :
    Calls Tryd.prog 15 #[.nilIface] w fun e w' => e = .returned (.agg #[.int .i64 0, .int .i64 0, .int .i64 0]) ∧ Below w.heap.size w w' := by
  go_enter Tryd.func15, Tryd.ntmps15
  go_wp2
  exact bodyPost_ret (v := .agg #[.int .i64 0, .int .i64 0, .int .i64 0]) (by simp [results, Tryd.results15, go_sem]) rfl ⟨rfl, ((Below.refl _ _).alloc (Nat.le_refl _) _)⟩
end Go.Proofs.YtbhfblogjlpnlaaDoor
