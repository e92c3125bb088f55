/-
  The keys of a map from uint32 to bytes, as maps.Keys hands them to slices.AppendSeq: each once. Condition: the map is the call's to read, and small.
-/
import Derived.Test.YticfffndciddgaaItRow
namespace Go.Proofs.Yticfffndciddgaa
open Go.RowKit Go.Maps Go.Sort

/-- What has come: no key twice; just those that are no more to come. -/
def GotKeys {H : Type} (D : DataW H) (left : Lit → Bool) (ss : List Int) : Prop := ss.Nodup ∧ ∀ x, x ∈ ss ↔ (has D (.int .u32 x) = true ∧ left (.int .u32 x) = false)
section
variable {H : Type} {D : DataW H} {left : Lit → Bool} {ss : List Int}
theorem GotKeys.start (D : DataW H) : GotKeys D (has D) [] := ⟨List.nodup_nil, fun x => by cases has D (.int .u32 x) <;> simp⟩
theorem GotKeys.step (h : GotKeys D left ss) {x : Int} (hl : left (.int .u32 x) = true) (hh : has D (.int .u32 x) = true) : GotKeys D (fun z => left z && !z.sameKey (.int .u32 x)) (ss ++ [x]) := by
  have hx : x ∉ ss := fun q => by have := ((h.2 x).1 q).2; rw [hl] at this; cases this
  refine ⟨List.nodup_append.2 ⟨h.1, by simp, fun p hp q hq => by simp at hq; subst hq; exact fun r => hx (r ▸ hp)⟩, fun y => ?_⟩
  by_cases hy : y = x
  · subst hy; simp [hh, Lit.sameKey]
  · simp [h.2 y, hy, Lit.sameKey]
end

/-- All keys of the map, each once. -/
def AllKeys {H : Type} (D : DataW H) (ss : List Int) : Prop := ss.Nodup ∧ (∀ x, x ∈ ss ↔ has D (.int .u32 x) = true) ∧ ss.length ≤ Maps.size D

set_option maxRecDepth 100000 in
set_option maxHeartbeats 4000000 in
theorem it_keys {H : Type} (w0 : World) (fn : FuncId) (m c e l b nn : Nat) (hcl : c ≠ l) (hel : e ≠ l) (hec : e ≠ c) (h0c : w0.heap.size ≤ c) (h0l : w0.heap.size ≤ l) (n : Nat) (D : DataW H) (hsz : Maps.size D ≤ 100000)
    (W : World) (h : ItAt w0 fn m c e l [] W) (hm : W.cell? ⟨m, 0, none⟩ = some (.map (some b))) (hown : W.ownsMap Try.prog 24 (plainElem Try.prog 5) b nn D) :
    CallsIn Fence.wide n Try.prog 31 #[.func (.yield l) #[] #[], .pointer (some ⟨m, 0, none⟩)] W fun r W' => (∃ v, r = .returned v) ∧ ∃ ss, AllKeys D ss ∧ ItAt w0 fn m c e l ss W' := by
  have hb0 : w0.heap.size ≤ W.heap.size := h.below.size
  have HIT := Lib.hid h
  have HR := Lib.hid (fun ss x W' (q : ItAt w0 fn m c e l ss W') (k : ss.length ≤ 100000) => it_round w0 fn m c e l hcl hel hec h0c h0l (n - 1) ss x W' q k)
  have HAB := Lib.hid (ItAt.abides w0 fn m c e l W.heap.size hb0)
  clear h
  refine callsIn_of_wp (F := Fence.wide) Try.func31 rfl trivial ?_ rfl
  simp only [Try.ntmps31, List.size_toArray, List.length_cons, List.length_nil, Nat.reduceAdd, Nat.reduceSub, Array.replicate_succ, Array.replicate_zero, List.push_toArray, List.append_toArray, List.nil_append, List.cons_append]
  gi_wp2_with (first
    | (gi_at_range; refine wpListIn_range_own _ rfl _ 49 rfl 24 5 (int_keyed Try.underlying24) Try.underlying49 _ b nn _ rfl hown ?_; intro w1 hrg1 hg1 hs1)
    | gi_in)
  go_frame
  gi_loopw [3] (fun _ wr => ∃ (left : Lit → Bool) (cnt : Nat) (ss : List Int), wr.ranges Try.prog 24 (plainElem Try.prog 5) b W.heap.size nn D left cnt ∧ ss.length + cnt ≤ Maps.size D ∧ GotKeys D left ss ∧ Hid (ItAt w0 fn m c e l ss wr))
    (fun _ wr => wr.rangeLeft b W.heap.size)
  case atStart => exact ⟨_, _, [], hrg1, by simp, GotKeys.start D, Lib.hid (HAB.out [] W w1 none HIT.out hg1 (fun r q => by cases q))⟩
  case round =>
    obtain ⟨left, cnt, ss, hrg, hcs, hG, HI⟩ := hrel
    gi_wp2_with (first
      | (gi_at_next; refine wpListIn_next_ranges _ rfl _ rfl 24 (int_keyed Try.underlying24) (plainElem Try.prog 5) encU id (fun key kl hk => by obtain ⟨x, hx, _⟩ := Maps.keyOf_int_inv Try.underlying24 hk; exact ⟨x, hx⟩) (fun v _ _ => ⟨v, rfl⟩) b W.heap.size nn _ _ _ rfl hrg ?_ ?_)
      | gi_in)
    · intro hc0 hl0
      gi_wp2
      go_end0
      exact ⟨⟨_, rfl⟩, ss, ⟨hG.1, fun x => by rw [hG.2 x, hl0]; simp, by omega⟩, HI.out⟩
    · intro x cv kl yd yp w2 cnt2 hkey hlk hv hat hrg2 hlt hg2 hs2 hen
      obtain ⟨x', ex, rfl, _⟩ := Maps.keyOf_int_inv Try.underlying24 hkey
      obtain rfl : x = x' := by simpa using ex
      have hJ2 : ItAt w0 fn m c e l ss w2 := HAB.out ss wr w2 (some W.heap.size) HI.out hg2 (fun r q => by cases q; exact ⟨Nat.le_refl _, hrg.iter_walk⟩)
      obtain ⟨fn', tmps, assign, body, hy, hR⟩ := HR.out ss x w2 hJ2 (by omega)
      clear hs2
      gi_wp2
      refine ⟨fun q => (by cases q), hR.mono ?_⟩
      rintro r W3 ⟨rfl, hJ3, hk3⟩
      gi_wp2
      have hrg3 := hrg2.of_walks hk3
      go_roundw
      case rel => exact ⟨_, cnt2, ss ++ [x], hrg3, by simp; omega, hG.step hlk (has_true_of_atKey hat), Lib.hid hJ3⟩
      case measure => rw [hrg3.left_eq, hrg.left_eq]; exact hlt

set_option maxRecDepth 100000 in
set_option maxHeartbeats 4000000 in
/-- slices.AppendSeq onto nil, of the iterator over a map's keys. -/
theorem append_keys {H : Type} (m b nn : Nat) (D : DataW H) (hsz : Maps.size D ≤ 100000) (w : World) (hml : m < w.heap.size) (hm : w.cell? ⟨m, 0, none⟩ = some (.map (some b))) (hown : w.ownsMap Try.prog 24 (plainElem Try.prog 5) b nn D) :
    Calls Try.prog 33 #[.slice none 0 0, .func (.func 31) #[] #[.pointer (some ⟨m, 0, none⟩)]] w fun r w' => ∃ (v : Value) (ss : List Int), r = .returned v ∧ AllKeys D ss ∧ w'.ownsRow w.heap.size 24 1 v ss.length (ss.map encU) ∧ (v = .slice none 0 0 ↔ ss = []) ∧ Below w.heap.size w w' := by
  refine (callsIn_wide (n := 9)).1 ?_
  refine callsIn_of_wp_marks (F := Fence.wide) Try.func33 rfl trivial ?_ rfl
  simp only [Try.ntmps33, List.size_toArray, List.length_cons, List.length_nil, Nat.reduceAdd, Nat.reduceSub, Array.replicate_succ, Array.replicate_zero, List.push_toArray, List.append_toArray, List.nil_append, List.cons_append]
  gi_wp2
  refine wpIn_rangeFunc ?_
  intro fn hfn
  obtain ⟨W0, hW0⟩ : ∃ W0, w.alloc (.cells #[.slice none 0 0] 55) = W0 := ⟨_, rfl⟩
  have s0 : W0.heap.size = w.heap.size + 1 := by rw [← hW0]; simp
  have v0 : W0.heap[w.heap.size]? = some (.cells #[.slice none 0 0] 55 (0, 0)) := by rw [← hW0]; exact World.alloc_heap_new w _
  have b0 : Below w.heap.size w W0 := by rw [← hW0]; exact (Below.refl _ w).alloc (Nat.le_refl _) _
  rw [hW0]
  obtain ⟨W1, hW1⟩ : ∃ W1, (W0.alloc (.deferred (some []))).alloc (.loop (itRec fn m w.heap.size W0.heap.size .ready none)) = W1 := ⟨_, rfl⟩
  have old : ∀ k, k < W0.heap.size → W1.heap[k]? = W0.heap[k]? := fun k hk => by
    rw [← hW1]; exact (Below.heap_alloc _ _ k (by simp; omega)).trans (Below.heap_alloc _ _ k hk)
  have b1 : Below w.heap.size w W1 := by rw [← hW1]; exact (b0.alloc b0.size _).alloc (by have := b0.size; simp; omega) _
  have hIt : ItAt w fn m w.heap.size W0.heap.size (W0.heap.size + 1) [] W1 :=
    ⟨⟨_, (old w.heap.size (by omega)).trans v0, ⟨rfl, .inl ⟨rfl, rfl⟩⟩, by simp⟩,
     by rw [← hW1]; have := World.alloc_heap_new (W0.alloc (.deferred (some []))) (.loop (itRec fn m w.heap.size W0.heap.size .ready none)); rwa [World.size_alloc] at this,
     by rw [← hW1]; exact (Below.heap_alloc _ _ _ (by simp)).trans (World.alloc_heap_new W0 _), b1⟩
  have hown1 : W1.ownsMap Try.prog 24 (plainElem Try.prog 5) b nn D := by
    have hbl := hown.lt
    obtain ⟨es, clock, hb, rest⟩ := hown
    exact ⟨es, clock, (b1.block b hbl).trans hb, rest⟩
  have hkeys := it_keys w fn m w.heap.size W0.heap.size (W0.heap.size + 1) b nn (by omega) (by omega) (by omega) (Nat.le_refl _) (by omega) 8 D hsz W1 hIt ((b1.cell (p := ⟨m, 0, none⟩) hml).trans hm) hown1
  refine ⟨W0.heap.size + 1, [{ target := .collected W0.heap.size, args := #[] }], W1, { target := .fn (.func 31) #[.pointer (some ⟨m, 0, none⟩)], args := #[.func (.yield (W0.heap.size + 1)) #[] #[]] }, W1, 31,
    #[.func (.yield (W0.heap.size + 1)) #[] #[], .pointer (some ⟨m, 0, none⟩)], W1, ?_, ?_, fun f' hf' => trivial, ?_, fun q => (by cases q), ?_⟩
  · rw [← hW1]; exact run_enterLoop_outer _ _ _ _ _
  · simp [resolve, go_sem]
  · have eg := enters_of Try.func31 (by kernel_rfl) rfl
    simp [invoke, go_sem, eg]
  · refine hkeys.mono ?_
    rintro r W2 ⟨⟨vr, rfl⟩, ss, hS, h2⟩
    obtain ⟨v, hv, hrow, hnil⟩ := h2.box
    have hend := run_endLoop (P := Try.prog) h2.loop (by simp [itRec])
    obtain ⟨W3, hW3⟩ : ∃ W3, W2.putObj (W0.heap.size + 1) (.loop { itRec fn m w.heap.size W0.heap.size .ready none with state := .exhausted }) = W3 := ⟨_, rfl⟩
    rw [hW3] at hend
    have g3 : W2.grownBy W3 (some (W0.heap.size + 1)) := by rw [← hW3]; exact grownBy_putObj_a _ _ _
    have v3 : W3.heap[w.heap.size]? = some (.cells #[v] 55 (0, 0)) := by rw [← hW3]; exact (World.putObj_heap_other (by omega)).trans hv
    have e3 : W3.heap[W0.heap.size]? = some (.deferred (some [])) := by rw [← hW3]; exact (World.putObj_heap_other (by omega)).trans h2.late
    have o3 := hrow.kept g3 (ownsRow_ne_a hrow h2.loop (fun cur q => by cases q))
    have b3 : Below w.heap.size w W3 := h2.below.grown g3 h2.below.size (fun k q => by injection q with q; omega)
    obtain ⟨c3, f3⟩ := cell_of_box_a v3
    clear hW3
    refine ⟨none, W3, hend, ?_⟩
    gi_wp2
    rw [← s0]
    refine ⟨by simp, .inl ⟨_, _, rfl, run_takeDeferred e3, ?_⟩⟩
    exact ⟨_, results_tmp rfl _ _ _, v, ss, rfl, hS, o3.kept (grownBy_putObj_a _ _ _) (ownsRow_ne_a o3 e3 (fun cur q => by cases q)), hnil, b3.grown (grownBy_putObj_a _ _ _) b3.size (fun k q => by injection q with q; omega)⟩
end Go.Proofs.Yticfffndciddgaa
