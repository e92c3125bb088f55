/-
  A memory of the program's: a map from addresses to bytes behind a pointer; what it holds at each address; a byte put there. Condition: fewer bytes than the model's bound.
-/
import Derived.Test.YticfffndciddgaaProg
import Derived.WalkKit
import Derived.Below
import Derived.Lib.Hide
import Derived.BigQuiet
import Derived.Maps.OwnSet
import Derived.Maps.AppendAt
import Derived.Maps.OwnOps
import Derived.WideMake
import Derived.Deep.LoopGhost
import Derived.Deep.Draws
import Derived.Deep.QuietTactic
import Derived.Deep.DeepCutAuto
import Derived.Deep.CutBlock
namespace Go.Proofs.Yticfffndciddgaa
open Go.RowKit Go.Maps

def upd (f : Int → Int) (a v : Int) : Int → Int := fun x => if x = a then v else f x

/-- The memory behind the pointer to block p, its map in block b, holds f. -/
structure MemIs (w : World) (p b n : Nat) (f : Int → Int) : Prop where
  cell : w.cell? ⟨p, 0, none⟩ = some (.map (some b))
  map : ∃ D : DataW Unit, w.ownsMap Try.prog 24 (plainElem Try.prog 5) b n D ∧ ∀ a, 0 ≤ a → a ≤ 4294967295 → D.atKey (.int .u32 a) (.lit (.int .u8 0)) = .lit (.int .u8 (f a)) ∧ (has D (.int .u32 a) = true ↔ f a ≠ 0)
  byte : ∀ a, 0 ≤ f a ∧ f a ≤ 255

theorem wf_u32 {a : Int} (h0 : 0 ≤ a) (h1 : a ≤ 4294967295) : (Lit.int .u32 a).wf = true := by
  simp [Lit.wf, IntKind.min, IntKind.max, IntKind.bits, IntKind.signed]
  omega
theorem wf_u8 {a : Int} (h0 : 0 ≤ a) (h1 : a ≤ 255) : (Lit.int .u8 a).wf = true := by
  simp [Lit.wf, IntKind.min, IntKind.max, IntKind.bits, IntKind.signed]
  omega
theorem u32_wf {k : Int} (h : (Lit.int .u32 k).wf = true) : 0 ≤ k ∧ k ≤ 4294967295 := by
  simp [Lit.wf, IntKind.min, IntKind.max, IntKind.bits, IntKind.signed] at h
  omega
theorem u8_wf {k : Int} (h : (Lit.int .u8 k).wf = true) : 0 ≤ k ∧ k ≤ 255 := by
  simp [Lit.wf, IntKind.min, IntKind.max, IntKind.bits, IntKind.signed] at h
  omega
theorem keyed32 : Keyed Try.prog 24 := int_keyed Try.underlying24
theorem key32 {a : Int} (h0 : 0 ≤ a) (h1 : a ≤ 4294967295) : keyOf Try.prog 24 (.int .u32 a) = some (.int .u32 a) := keyOf_int_mk Try.underlying24 (wf_u32 h0 h1)

section
variable {w w' : World} {p b n : Nat} {f : Int → Int}
theorem MemIs.lt (h : MemIs w p b n f) : p < w.heap.size ∧ b < w.heap.size ∧ p ≠ b := by
  obtain ⟨D, ⟨es, clock, hb, _⟩, _⟩ := h.map
  have hc := h.cell
  refine ⟨?_, (Array.getElem?_eq_some_iff.1 hb).1, fun q => ?_⟩
  · unfold World.cell? at hc
    cases hq : w.heap[p]? with
    | none => simp [hq] at hc
    | some o => exact (Array.getElem?_eq_some_iff.1 hq).1
  · subst q
    simp [World.cell?, hb] at hc
theorem MemIs.kept (h : MemIs w p b n f) {row : Option Nat} (hg : w.grownBy w' row) (hp : some p ≠ row) (hb : some b ≠ row) : MemIs w' p b n f := by
  refine ⟨(World.cell?_of_block (w := w) (a := ⟨p, 0, none⟩) (hg.block p h.lt.1 hp)).trans h.cell, ?_, h.byte⟩
  obtain ⟨D, h1, h2⟩ := h.map
  exact ⟨D, h1.kept hg hb, h2⟩
theorem MemIs.next (h : MemIs w p b n f) (hb : Below w.heap.size w w') : MemIs w' p b n f := by
  refine ⟨(hb.cell (p := ⟨p, 0, none⟩) h.lt.1).trans h.cell, ?_, h.byte⟩
  obtain ⟨D, ⟨es, clock, h1, h3⟩, h2⟩ := h.map
  exact ⟨D, ⟨es, clock, (hb.block b (Array.getElem?_eq_some_iff.1 h1).1).trans h1, h3⟩, h2⟩
theorem MemIs.more (h : MemIs w p b n f) {n' : Nat} (hn : n ≤ n') : MemIs w p b n' f := by
  obtain ⟨D, h1, h2⟩ := h.map
  exact ⟨h.cell, ⟨D, h1.mono hn, h2⟩, h.byte⟩
end

theorem ne_key {x a : Int} (h : x ≠ a) : Lit.int IntKind.u32 x ≠ Lit.int .u32 a := fun q => h (by injection q)

set_option maxRecDepth 100000 in
set_option maxHeartbeats 2000000 in
theorem put_is {w : World} {p b n : Nat} {f : Int → Int} (h : MemIs w p b n f) (a v : Int) (h0 : 0 ≤ a) (h1 : a ≤ 4294967295) (v0 : 0 ≤ v) (v1 : v ≤ 255) (hn : n < 1000000) :
    Calls Try.prog 23 #[.pointer (some ⟨p, 0, none⟩), .int .u32 a, .int .u8 v] w fun e w' => e = .returned (.tuple #[]) ∧ MemIs w' p b (n + 1) (upd f a v) ∧ w.grownBy w' (some b) := by
  obtain ⟨D, hown, hD⟩ := h.map
  have hc := h.cell
  have hne := h.lt.2.2
  have hby := h.byte
  have hfin : ∀ (D' : DataW Unit) (w' : World), w'.ownsMap Try.prog 24 (plainElem Try.prog 5) b (n + 1) D' → w.grownBy w' (some b) → (∀ x, 0 ≤ x → x ≤ 4294967295 → D'.atKey (.int .u32 x) (.lit (.int .u8 0)) = .lit (.int .u8 (upd f a v x)) ∧ (has D' (.int .u32 x) = true ↔ upd f a v x ≠ 0)) → MemIs w' p b (n + 1) (upd f a v) := fun D' w' q1 q2 q3 =>
    ⟨(World.cell?_of_block (w := w) (a := ⟨p, 0, none⟩) (q2.block p h.lt.1 (fun q => hne (by injection q)))).trans hc, ⟨D', q1, q3⟩, fun x => by
      unfold upd
      split
      · exact ⟨v0, v1⟩
      · exact hby x⟩
  have HF := Lib.hid hfin
  have HD := Lib.hid hD
  have HM := Lib.hid (hown.isMap)
  have HT := Lib.hid (hown.mono (Nat.le_succ n))
  clear hfin hby hD h
  go_enter Try.func23, Try.ntmps23
  by_cases hv : v = 0
  · have hvb : (v == 0) = true := by rw [hv]; rfl
    go_wp2_with (first
      | (at_delete; refine wpList_delete_own _ rfl _ _ 49 24 rfl 5 keyed32 Try.underlying49 _ b n D rfl hown _ _ rfl (key32 h0 h1) ?_; intro w1 hown1 hturn1)
      | go_in)
    refine bodyPost_ret (results_none rfl _ _ _) rfl ?_
    refine ⟨rfl, HF.out _ _ (hown1.mono (Nat.le_succ n)) hturn1.grown (fun x x0 x1 => ?_), hturn1.grown⟩
    unfold upd
    by_cases hx : x = a
    · rw [if_pos hx, hx, hv]
      exact ⟨atKey_del_same _, by rw [has_del_same]; simp⟩
    · rw [if_neg hx, atKey_del_other (ne_key hx), has_del_other (ne_key hx)]
      exact HD.out x x0 x1
  · have hvb : (v == 0) = false := beq_eq_false_iff_ne.2 hv
    go_wp2_with (first
      | (at_mapUpdate; refine wpList_mapUpdate_own _ rfl _ _ _ 49 rfl 24 5 keyed32 Try.underlying49 _ b n D rfl hown (by unfold maxLen; omega) _ _ (.int .u32 a) rfl rfl (key32 h0 h1) (.lit (.int .u8 v)) [] (plainElem_int Try.underlying5 (wf_u8 v0 v1)) ?_; intro w1 hown1 hgrow1)
      | go_in)
    go_end0
    refine ⟨rfl, HF.out _ _ hown1 hgrow1 (fun x x0 x1 => ?_), hgrow1⟩
    unfold upd
    by_cases hx : x = a
    · rw [if_pos hx, hx]
      exact ⟨atKey_put_same HM.out (keyed32.key (key32 h0 h1)) _ _, by rw [has_put_same HM.out (keyed32.key (key32 h0 h1))]; simp [hv]⟩
    · rw [if_neg hx, atKey_put_other (ne_key hx), has_put_other (ne_key hx)]
      exact HD.out x x0 x1
end Go.Proofs.Yticfffndciddgaa
