/-
  A range over a function that appends what it is handed to a row of its own (slices.AppendSeq at uint32): the state between two rounds, and one round. Condition: the row stays below the model's bounds.
-/
import Derived.Test.YticfffndciddgaaSoBase
import Derived.Shelf.SlIter.Collect
namespace Go.Proofs.Yticfffndciddgaa
open Go.RowKit Go.Maps Go.Sort

/-- The round's code in a function's: the assignment to the loop's variable, and the body. -/
def findRange : Code → Option (Code × Code)
  | .rangeFunc _ _ c d => some (c, d)
  | .seq c d => match findRange c with
    | some x => some x
    | none => findRange d
  | .block _ c => findRange c
  | .scope c => findRange c
  | _ => none
noncomputable def itCode : Code × Code := ((Try.f33.body.bind findRange).getD (.skip, .skip))
abbrev encU : Int → Value := Value.int .u32

/-- The loop's record: the row boxed in block c, the iterator over the map boxed in block m, the deferred calls in block e. -/
noncomputable def itRec (fn : FuncId) (m c e : Nat) (st : LoopState) (pend : Option Code) : Loop :=
  { state := st, pending := pend, fn, tmps := #[.slice none 0 0, .func (.func 31) #[] #[.pointer (some ⟨m, 0, none⟩)], .pointer (some ⟨c, 0, none⟩), undef, .slice none 0 0, undef, .func (.func 31) #[] #[.pointer (some ⟨m, 0, none⟩)], undef, undef, undef, undef, undef, undef], params := #[7], assign := itCode.1, body := itCode.2, defers := e }

/-- Between two rounds: ss has come. -/
structure ItAt (w0 : World) (fn : FuncId) (m c e l : Nat) (ss : List Int) (w : World) : Prop where
  box : ∃ v, w.heap[c]? = some (.cells #[v] 55 (0, 0)) ∧ w.ownsRow w0.heap.size 24 1 v ss.length (ss.map encU) ∧ (v = .slice none 0 0 ↔ ss = [])
  loop : w.heap[l]? = some (.loop (itRec fn m c e .ready none))
  late : w.heap[e]? = some (.deferred (some []))
  below : Below w0.heap.size w0 w

theorem ItAt.abides (w0 : World) (fn : FuncId) (m c e l K : Nat) (hK : w0.heap.size ≤ K) : AbidesFrom K (ItAt w0 fn m c e l) := fun ss W W' row h hg hrow => by
  have hr : ∀ r, row = some r → ∃ o : Obj, W.heap[r]? = some o ∧ o.isWalk = true := fun r q => (hrow r q).2
  obtain ⟨v, h1, h2, h3⟩ := h.box
  exact ⟨⟨v, (grownBy_keeps hg hr h1 rfl).trans h1, ownsRow_abides_a h2 hg hr, h3⟩, (grownBy_keeps hg hr h.loop rfl).trans h.loop, (grownBy_keeps hg hr h.late rfl).trans h.late,
    h.below.grown hg h.below.size (fun k q => Nat.le_trans hK (hrow k q).1)⟩

theorem Try.infoU32 : (Try.prog.info? 24).map (fun i => (i.zero, i.size, i.bytes)) = some (some (.int .u32 0), 1, 4) := by kernel_rfl

set_option maxRecDepth 100000 in
set_option maxHeartbeats 4000000 in
theorem it_round (w0 : World) (fn : FuncId) (m c e l : Nat) (hcl : c ≠ l) (hel : e ≠ l) (hec : e ≠ c) (h0c : w0.heap.size ≤ c) (h0l : w0.heap.size ≤ l) (n : Nat) (ss : List Int) (x : Int) (W : World) (h : ItAt w0 fn m c e l ss W) (hlen : ss.length ≤ 100000) :
    YieldAt Fence.wide n Try.prog l #[encU x] W fun r W' => r = .returned (.bool true) ∧ ItAt w0 fn m c e l (ss ++ [x]) W' ∧ KeepsWalks W W' := by
  obtain ⟨i0, hi, hz0, hz1, hz2⟩ := info_parts Try.infoU32
  obtain ⟨v, hv, hrow, -⟩ := h.box
  have hy : (Instr.yield l #[encU x]).run Try.prog W = .ok (.round l fn #[.slice none 0 0, (.func (.func 31) #[] #[.pointer (some ⟨m, 0, none⟩)]), .pointer (some ⟨c, 0, none⟩), undef, .slice none 0 0, undef, (.func (.func 31) #[] #[.pointer (some ⟨m, 0, none⟩)]), encU x, undef, undef, undef, undef, undef] itCode.1 itCode.2) W := by simpa [itRec] using run_yield (P := Try.prog) (args := #[encU x]) h.loop rfl
  refine ⟨fn, _, itCode.1, itCode.2, hy, roundIn_of_wpIn (F := Fence.wide) trivial ?_⟩
  have hbr := run_beginRound (P := Try.prog) h.loop rfl
  have hl : l < W.heap.size := (Array.getElem?_eq_some_iff.1 h.loop).1
  obtain ⟨W2, hW2⟩ : ∃ W2, W.putObj l (.loop { itRec fn m c e .ready none with state := .busy }) = W2 := ⟨_, rfl⟩
  have hbr2 : (Instr.beginRound l).run Try.prog W = .ok () W2 := by rw [← hW2]; exact hbr
  have g2 : W.grownBy W2 (some l) := by rw [← hW2]; exact grownBy_putObj_a _ _ _
  have k2 : KeepsWalks W W2 := by rw [← hW2]; exact KeepsWalks.putObj _ h.loop rfl
  have v2 : W2.heap[c]? = some (.cells #[v] 55 (0, 0)) := by rw [← hW2]; exact (World.putObj_heap_other hcl).trans hv
  have e2 : W2.heap[e]? = some (.deferred (some [])) := by rw [← hW2]; exact (World.putObj_heap_other hel).trans h.late
  have r2 : W2.heap[l]? = some (.loop { itRec fn m c e .ready none with state := .busy }) := by rw [← hW2]; exact World.putObj_heap_same hl
  have o2 : W2.ownsRow w0.heap.size 24 1 v ss.length (ss.map encU) := hrow.kept g2 (ownsRow_ne_a hrow h.loop (fun cur q => by cases q))
  have b2 : Below w0.heap.size w0 W2 := h.below.grown g2 h.below.size (fun k q => by cases q; exact h0l)
  obtain ⟨c2, f2⟩ := cell_of_box_a v2
  have hclt : c < W2.heap.size := (Array.getElem?_eq_some_iff.1 v2).1
  clear hW2 hbr hy
  conv => arg 4; whnf
  gi_wp2_with gi_round_op_a
  conv => arg 4; whnf
  have ne : ∀ (j : Nat) (q : Obj), W2.heap[j]? = some q → (∀ cur, q ≠ .cells cur 24 (0, 0)) → some j ≠ v.ownBlock := fun j q hj hno => by
    rcases ownsRow_ne_a o2 hj hno with r | r
    · rw [r]; simp
    · exact fun r' => r r'.symm
  have HNE := Lib.hid ne
  have HO2 := Lib.hid o2
  have HH := Lib.hid (And.intro v2 (And.intro e2 (And.intro r2 (And.intro b2 (And.intro k2 g2)))))
  clear v2 e2 r2 b2 k2 g2 o2 ne h hv hrow
  gi_wp2_with (first
    | (gi_at_builtin; refine wpListIn_append_own _ rfl _ _ 55 rfl w0.heap.size 24 i0 (.int .u32 0) 1 4 Try.underlying55 hi hz0 hz1 hz2 rfl (by decide) _ _ _ rfl (HO2.out.alloc _) ⟨W2.heap.size, 0, none⟩ 1 1 [encU x] rfl rfl (cell_one_new _ _ _) (by simp [Value.oneCell']) (by unfold maxLen; omega) (by omega) (by have := HH.out.2.2.2.1.size; simp; omega) ?_; intro v' w3 hown3 hg3 hnil3
       have v3 : w3.heap[c]? = some (.cells #[v] 55 (0, 0)) := (hg3.block c (by simp; omega) (HNE.out c _ HH.out.1 (fun cur q => by have := (Obj.cells.inj q).2.1; exact absurd this (by decide)))).trans ((Below.heap_alloc _ _ c hclt).trans HH.out.1)
       obtain ⟨hc3, hf3⟩ := cell_of_box_a v3
       obtain ⟨g', cap', rfl, hgb⟩ : ∃ g' cap', v' = .slice (some ⟨g', 0, none⟩) (ss.length + 1) cap' ∧ w0.heap.size ≤ g' := by
         rcases hown3.2 with ⟨_, q0⟩ | ⟨g', cap', cur', q1, q2, _⟩
         · exact absurd q0 (by omega)
         · exact ⟨g', cap', q1, q2⟩
       have H3 := Lib.hid (And.intro hown3 (And.intro hg3 v3))
       clear hown3 hg3 v3 hnil3
       go_frame)
    | gi_round_op_a)
  obtain ⟨v2, e2, r2, b2, k2, -⟩ := HH.out
  obtain ⟨o3, hg3, v3⟩ := H3.out
  have hlt2 : l < W2.heap.size := (Array.getElem?_eq_some_iff.1 r2).1
  have het2 : e < W2.heap.size := (Array.getElem?_eq_some_iff.1 e2).1
  have r3 : w3.heap[l]? = some (.loop { itRec fn m c e .ready none with state := .busy }) := (hg3.block l (by simp; omega) (HNE.out l _ r2 (fun cur q => by cases q))).trans ((Below.heap_alloc _ _ l hlt2).trans r2)
  have e3 : w3.heap[e]? = some (.deferred (some [])) := (hg3.block e (by simp; omega) (HNE.out e _ e2 (fun cur q => by cases q))).trans ((Below.heap_alloc _ _ e het2).trans e2)
  have b3 : Below w0.heap.size w0 w3 := (b2.alloc b2.size _).grown hg3 (by have := b2.size; simp; omega) (fun k q => (HO2.out.lt k q).1)
  have k3 : KeepsWalks W w3 := (k2.trans (KeepsWalks.alloc _ _)).trans (KeepsWalks.of_grownBy hg3 (ownsRow_not_walk_a (HO2.out.alloc _)))
  obtain ⟨w4, hw4⟩ : ∃ w4, w3.setCell ⟨c, 0, none⟩ (.slice (some ⟨g', 0, none⟩) (ss.length + 1) cap') = w4 := ⟨_, rfl⟩
  have g4 : w3.grownBy w4 (some c) := by rw [← hw4]; exact grownBy_setCell0_a _ _ _
  have v4 : w4.heap[c]? = some (.cells #[.slice (some ⟨g', 0, none⟩) (ss.length + 1) cap'] 55 (0, 0)) := by rw [← hw4]; exact heap_setCell_box_a _ v3
  have k4 : KeepsWalks W w4 := k3.trans (by rw [← hw4]; exact KeepsWalks.setCell _ _ _)
  have o4 := o3.kept g4 (ownsRow_ne_a o3 v3 (fun cur q => by have := (Obj.cells.inj q).2.1; exact absurd this (by decide)))
  have r4 : w4.heap[l]? = some (.loop { itRec fn m c e .ready none with state := .busy }) := (g4.block l (Array.getElem?_eq_some_iff.1 r3).1 (fun q => hcl (by injection q with q; exact q.symm))).trans r3
  have e4 : w4.heap[e]? = some (.deferred (some [])) := (g4.block e (Array.getElem?_eq_some_iff.1 e3).1 (fun q => hec (by injection q))).trans e3
  have b4 : Below w0.heap.size w0 w4 := b3.grown g4 b3.size (fun k q => by injection q with q; omega)
  have hlt4 : l < w4.heap.size := (Array.getElem?_eq_some_iff.1 r4).1
  rw [hw4]
  refine ⟨_, _, run_endRound none r4, rfl, ⟨⟨_, (World.putObj_heap_other hcl).trans v4, ?_, ?_⟩, World.putObj_heap_same hlt4, (World.putObj_heap_other hel).trans e4, b4.grown (grownBy_putObj_a _ _ _) b4.size (fun k q => by injection q with q; omega)⟩, k4.trans (KeepsWalks.putObj _ r4 rfl)⟩
  · have := o4.kept (grownBy_putObj_a w4 l (.loop { { itRec fn m c e .ready none with state := .busy } with state := if (none : Option Code).isNone then .ready else .done, pending := none })) (ownsRow_ne_a o4 r4 (fun cur q => by cases q))
    rw [List.length_append, List.map_append]
    exact this
  · simp
end Go.Proofs.Yticfffndciddgaa
