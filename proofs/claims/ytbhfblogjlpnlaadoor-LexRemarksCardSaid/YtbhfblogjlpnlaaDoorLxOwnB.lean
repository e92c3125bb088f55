/-
  Bytes of the call's own, put behind bytes that were made of a string: such a row bears the run-time's mark behind its last cell. Condition: none.
-/
import Derived.Test.YtbhfblogjlpnlaaDoorLxByt
import Derived.Laws.CopyRow
import Derived.Lib.AppendStr
namespace Go.Proofs.YtbhfblogjlpnlaaDoor
open Go.RowKit

theorem run_storeCells_atB (P : Program) (g o : Nat) (t : TypeId) (fz : Nat × Nat) : ∀ (vs : List Value) (i : Nat) (cur : Array Value) (w : World), w.heap[g]? = some (.cells cur t fz) → (fz = (0, 0) ∨ cur.size ≤ fz.1) → o + i + vs.length ≤ cur.size → (∀ v ∈ vs, v.oneCell' = true) →
    (storeCells ⟨g, o, none⟩ vs i).run P w = .ok () (w.setRow g (cur.toList.take (o + i) ++ vs ++ cur.toList.drop (o + i + vs.length)).toArray)
  | [], i, cur, w, hg, _, _, _ => by
    simp only [storeCells, List.append_nil, List.length_nil, Nat.add_zero, List.take_append_drop, Array.toArray_toList]
    rw [setRow_self w g cur t fz hg]
    rfl
  | v :: rest, i, cur, w, hg, hfz, hl, h1 => by
    have hi : o + i < cur.size := by simp at hl; omega
    have hadd : (⟨g, o, none⟩ : Addr).add i = ⟨g, o + i, none⟩ := by unfold Addr.add; split <;> simp_all
    have hcell : w.cell? ⟨g, o + i, none⟩ = some cur[o + i] := by simp [World.cell?, hg, hi]
    have hfro : w.frozen? ⟨g, o + i, none⟩ = false := by
      obtain ⟨lo, hi'⟩ := fz
      simp only [World.frozen?, hg, Bool.and_eq_false_iff, decide_eq_false_iff_not]
      rcases hfz with h | h
      · right
        injection h with _ h2
        omega
      · left
        simp only at h
        omega
    have hst : (store ((⟨g, o, none⟩ : Addr).add i) v).run P w = .ok () (w.setRow g (cur.setIfInBounds (o + i) v)) := by
      rw [hadd, run_store P w _ v _ (h1 v (by simp)), hcell]
      simp [hfro, setCell_eq_setRow w g (o + i) cur t fz v hg]
    have ih := run_storeCells_atB P g o t fz rest (i + 1) (cur.setIfInBounds (o + i) v) (w.setRow g (cur.setIfInBounds (o + i) v)) (setRow_heap w g cur _ t _ hg) (by simpa using hfz) (by simp at hl ⊢; omega) (fun x hx => h1 x (by simp [hx]))
    simp only [storeCells, Sem.run_bind, hst, Result.andThen_ok, ih, setRow_setRow]
    congr 3
    have e := list_seg_step cur.toList (o + i) v rest (by simp at hl ⊢; omega)
    simpa [Array.toList_setIfInBounds, Nat.add_assoc] using e

/-- Bytes of the call's own, the row marked or not. -/
def OwnB (w : World) (base : Nat) (v : Value) (n : Nat) (L : Bs) : Prop := L.length = n ∧ ∃ (g cap : Nat) (cur : Array Value) (fz : Nat × Nat), v = .slice (some ⟨g, 0, none⟩) n cap ∧ base ≤ g ∧ w.heap[g]? = some (.cells cur 5 fz) ∧ (fz = (0, 0) ∨ cur.size ≤ fz.1) ∧ n ≤ cap ∧ cap ≤ maxLen ∧ cur.size = cap ∧ cur.toList.take n = L.map u8V

theorem ownB_string (w : World) (s : ByteArray) (n : Nat) (hn : s.size = n) (hs : n ≤ 10000) (fz : Nat × Nat) (hfz : (bytesRow s (grownCap w n 0 5)).size ≤ fz.1) (L : Bs) (hL : s.data.toList = L) : OwnB ((w.alloc (.cells (bytesRow s (grownCap w n 0 5)) 5 fz)).drew) w.heap.size (.slice (some ⟨w.heap.size, 0, none⟩) n (grownCap w n 0 5)) n L := by
  subst hn hL
  have hge := grownCap_ge w s.size 0 5
  have hsz : s.data.size = s.size := rfl
  refine ⟨len_size s, w.heap.size, _, _, _, rfl, Nat.le_refl _, heap_alloc_new w _, .inr hfz, hge, grownCap_le_maxLen w s.size 0 _ (by unfold maxLen; omega), ?_, ?_⟩
  · simp [bytesRow]
    omega
  · unfold bytesRow
    rw [Array.toList_append, List.take_append_of_le_length (by simp)]
    rw [List.take_of_length_le (by simp)]
    simp [u8V]

theorem ownB_src {w : World} {base n : Nat} {v : Value} {s : ByteArray} (h : OwnB w base v n s.data.toList) : SrcV w v s := by
  obtain ⟨hl, g, cap, cur, fz, rfl, _, hg, _, hnc, hcm, hcs, ht⟩ := h
  rw [len_size] at hl
  subst hl
  refine .inr ⟨g, 0, cap, rfl, hnc, hcm, (Array.getElem?_eq_some_iff.1 hg).1, fun j hj => ?_⟩
  have hj2 : j < s.data.toList.length := by rw [len_size]; exact hj
  have : (cur.toList.take s.size)[j]? = some (u8V (s[j]'hj)) := by
    rw [ht, List.getElem?_map, List.getElem?_eq_getElem hj2]
    rfl
  rw [List.getElem?_take_of_lt hj, Array.getElem?_toList] at this
  rw [Nat.zero_add]
  simp only [World.cell?, hg]
  simpa [u8V] using this
theorem ownB_block {w : World} {base n : Nat} {v : Value} {L : Bs} (h : OwnB w base v n L) : ∀ g, v.ownBlock = some g → base ≤ g := by
  obtain ⟨_, g, cap, cur, fz, rfl, h1, _⟩ := h
  intro k hk
  cases hk
  exact h1
theorem ownB_below {w w' : World} {base n : Nat} {v : Value} {L : Bs} (h : OwnB w base v n L) (hb : Below w.heap.size w w') : OwnB w' base v n L := by
  obtain ⟨hl, g, cap, cur, fz, rfl, h1, hg, h2⟩ := h
  exact ⟨hl, g, cap, cur, fz, rfl, h1, (hb.block g (Array.getElem?_eq_some_iff.1 hg).1).trans hg, h2⟩

set_option maxRecDepth 100000 in
theorem run_appendB {w : World} (u ty : TypeId) (hu : Tryd.prog.underlying u = some (.slice 5) ∨ Tryd.prog.underlying u = some .string) (base n : Nat) (v : Value) (L : Bs) (hown : OwnB w base v n L) (x : Value) (m : Nat) (T : Bs) (hm : T.length = m)
    (hlen : ∀ W, (Builtin.lenOf x).run Tryd.prog W = .ok m W) (hf : ∀ W, (W = w ∨ W = w.drew) → (Builtin.firstCells 1 m x).run Tryd.prog W = .ok (T.map u8V).toArray W) (hle : n + m ≤ 10000) (hbase : base ≤ w.heap.size) :
    ∃ v' w', (Builtin.append_ #[22, u] ty #[v, x]).run Tryd.prog w = .ok v' w' ∧ OwnB w' base v' (n + m) (L ++ T) ∧ w.grownBy w' v.ownBlock := by
  obtain ⟨i, hi, hz0, hz1, hz2⟩ := info_parts Tryd.infoByte
  have ht := Tryd.underlying22
  obtain ⟨hl, g, cap, cur, fz, rfl, hbg, hg, hfz, hnc, hcm, hcs, htake⟩ := hown
  have hone : ∀ y ∈ T.map u8V, y.oneCell' = true := by
    intro y hy
    obtain ⟨c, _, rfl⟩ := List.mem_map.1 hy
    rfl
  have hTl : (T.map u8V).length = m := by rw [List.length_map]; exact hm
  by_cases hroom : n + m ≤ cap
  · have hst := run_storeCells_atB Tryd.prog g n 5 fz (T.map u8V) 0 cur w hg hfz (by rw [hTl]; omega) hone
    simp only [Nat.add_zero, hTl] at hst
    have hf0 := hf w (.inl rfl)
    refine ⟨.slice (some ⟨g, 0, none⟩) (n + m) cap, w.setRow g (cur.toList.take n ++ T.map u8V ++ cur.toList.drop (n + m)).toArray, ?_, ?_, ?_⟩
    · rcases hu with hu | hu <;> simp [Builtin.append_, run_underlying ht, run_underlying hu, sizeOf, typeInfo, hi, hz1, hlen, hroom, hf0, Addr.add_lit, hst]
    · refine ⟨by rw [List.length_append, hl, hm], g, cap, _, fz, rfl, hbg, setRow_heap w g cur _ _ _ hg, ?_, hroom, hcm, ?_, ?_⟩
      · have : ((cur.toList.take n ++ T.map u8V ++ cur.toList.drop (n + m)).toArray).size = cur.size := by
          simp only [List.size_toArray, List.length_append, List.length_take, List.length_drop, Array.length_toList, hTl]
          omega
        rw [this]
        exact hfz
      · simp only [List.size_toArray, List.length_append, List.length_take, List.length_drop, Array.length_toList, hTl]
        omega
      · show (cur.toList.take n ++ T.map u8V ++ cur.toList.drop (n + m)).take (n + m) = _
        rw [htake, ← List.map_append, List.take_append_of_le_length (by simp [hl, hm])]
        rw [List.take_of_length_le (by simp [hl, hm])]
    · exact ⟨rfl, rfl, rfl, by simp, fun k _ hk => setRow_other w g k _ (fun e => hk (by simp [Value.ownBlock, e]))⟩
  · have holds : ∀ j y, (L.map u8V)[j]? = some y → w.cell? ((⟨g, 0, none⟩ : Addr).add j) = some y := by
      intro j y hy
      have hj : j < n := by have := (List.getElem?_eq_some_iff.1 hy).1; rwa [List.length_map, hl] at this
      have hadd : (⟨g, 0, none⟩ : Addr).add j = ⟨g, j, none⟩ := by unfold Addr.add; split <;> simp_all
      rw [← htake, List.getElem?_take_of_lt hj, Array.getElem?_toList] at hy
      rw [hadd]
      simp only [World.cell?, hg]
      simpa using hy
    have hn : ¬ (n + m ≤ cap) := hroom
    have h63 : ¬ (9223372036854775807 < ((n : Int) + (m : Int))) := by omega
    have h48 : ¬ (281474976710656 < Builtin.nextslicecap (n + m) cap * i.bytes) := by
      have := growslice_fits (need := n + m) (old := cap) (bytes := i.bytes) (by omega) (by rw [hz2]; omega)
      omega
    have hfo := run_firstCells_some (P := Tryd.prog) w.drew i.size n ⟨g, 0, none⟩ n cap (L.map u8V) (by rw [hz1, List.length_map, hl]; omega) (by simpa using holds)
    have hf1 := hf w.drew (.inr rfl)
    rw [hz1] at hfo
    refine ⟨.slice (some ⟨w.heap.size, 0, none⟩) (n + m) (grownCap w (n + m) cap 5), w.drew.alloc (.cells ((L.map u8V).toArray ++ (T.map u8V).toArray ++ Builtin.zeroCells (Value.int .u8 0).cells (grownCap w (n + m) cap 5 - (n + m))) 5), ?_, ?_, ?_⟩
    · rcases hu with hu | hu <;>
      (simp [Builtin.append_, run_underlying ht, run_underlying hu, sizeOf, typeInfo, zeroValue, hi, hz0, hz1, hlen, hn, h63, h48, Question.forced, hf1, hfo, newRow, grownCap]
       congr 2
       apply Array.ext'
       simp [List.append_assoc])
    · have hge := grownCap_ge w (n + m) cap 5
      refine ⟨by rw [List.length_append, hl, hm], w.heap.size, _, _, (0, 0), rfl, hbase, heap_alloc_new w.drew _, .inl rfl, hge, grownCap_le_maxLen w (n + m) cap _ (by unfold maxLen; omega), ?_, ?_⟩
      · have hz : (Value.int IntKind.u8 0).cells.size = 1 := rfl
        simp only [Array.size_append, List.size_toArray, size_zeroCells, hz, hTl, List.length_map, hl]
        omega
      · rw [Array.toList_append, Array.toList_append, ← List.map_append, List.take_append_of_le_length (by simp [hl, hm])]
        rw [List.take_of_length_le (by simp [hl, hm])]
    · exact ⟨rfl, rfl, rfl, by simp, fun k hk _ => Below.heap_alloc w.drew _ k hk⟩

/-- Bytes of a source put behind. -/
theorem append_srcB {ops : Array Oper} {rest : List Oper} {o : Oper} {a : Act} {Q : Exit → Act → World → Prop} {w : World} (hgd : o.guard = none) (s x : Operand)
    (ho : o.op = .call { callee := .builtin .append, args := #[s, x], argTypes := #[22, 22] }) (base n : Nat) (v : Value) (L : Bs) (hs : a.eval s = v) (hown : OwnB w base v n L)
    (u : Value) (T : ByteArray) (hx : a.eval x = u) (hT : SrcV w u T) (hle : n + T.size ≤ 10000) (hbase : base ≤ w.heap.size)
    (h : ∀ v' w', OwnB w' base v' (n + T.size) (L ++ T.data.toList) → w.grownBy w' v.ownBlock → wpList Tryd.prog ops Q rest (a.put o.dst v') w') : wpList Tryd.prog ops Q (o :: rest) a w := by
  refine wpList_plain hgd fun K hK => ?_
  obtain ⟨v', w', hr, h2, h3⟩ := run_appendB 22 o.type (.inl Tryd.underlying22) base n v L hown u T.size T.data.toList (len_size T)
    (by
      intro W
      rcases hT with ⟨rfl, rfl⟩ | ⟨b, f, c, rfl, _⟩
      · simp [Builtin.lenOf]
      · simp [Builtin.lenOf])
    (by
      intro W hW
      rcases hT with ⟨rfl, rfl⟩ | ⟨b, f, c, rfl, _, _, h4⟩
      · simp [Builtin.firstCells]
      · refine run_firstCells_some (P := Tryd.prog) W 1 T.size ⟨b, f, none⟩ T.size c (T.data.toList.map u8V) (by simp) ?_
        intro j y hy
        have hj : j < T.size := by have := (List.getElem?_eq_some_iff.1 hy).1; simpa using this
        have hj2 : j < T.data.toList.length := by simpa using hj
        have hadd : (⟨b, f, none⟩ : Addr).add j = ⟨b, f + j, none⟩ := by unfold Addr.add; split <;> simp_all
        have hc := h4.cell j hj
        rw [List.getElem?_map, List.getElem?_eq_getElem hj2] at hy
        rw [hadd]
        rcases hW with rfl | rfl
        · rw [hc]
          exact hy
        · show w.cell? ⟨b, f + j, none⟩ = some y
          rw [hc]
          exact hy) hle hbase
  unfold Oper.wp execOp
  simp only [ho, resolve, invoke, builtin, Sem.run_bind, Sem.run_pure, Result.andThen_ok, List.map_toArray, List.map_cons, List.map_nil, hs, hx, hr]
  exact hK _ _ (h v' w' h2 h3)
/-- A string's bytes put behind. -/
theorem append_strB {ops : Array Oper} {rest : List Oper} {o : Oper} {a : Act} {Q : Exit → Act → World → Prop} {w : World} (hgd : o.guard = none) (s x : Operand)
    (ho : o.op = .call { callee := .builtin .append, args := #[s, x], argTypes := #[22, 9] }) (base n : Nat) (v : Value) (L : Bs) (hs : a.eval s = v) (hown : OwnB w base v n L)
    (T : ByteArray) (hx : a.eval x = .string T) (hle : n + T.size ≤ 10000) (hbase : base ≤ w.heap.size)
    (h : ∀ v' w', OwnB w' base v' (n + T.size) (L ++ T.data.toList) → w.grownBy w' v.ownBlock → wpList Tryd.prog ops Q rest (a.put o.dst v') w') : wpList Tryd.prog ops Q (o :: rest) a w := by
  refine wpList_plain hgd fun K hK => ?_
  obtain ⟨v', w', hr, h2, h3⟩ := run_appendB 9 o.type (.inr Tryd.underlying9) base n v L hown (.string T) T.size T.data.toList (len_size T)
    (by intro W; simp [Builtin.lenOf]) (fun W _ => Lib.run_firstCells_string (P := Tryd.prog) W 1 T) hle hbase
  unfold Oper.wp execOp
  simp only [ho, resolve, invoke, builtin, Sem.run_bind, Sem.run_pure, Result.andThen_ok, List.map_toArray, List.map_cons, List.map_nil, hs, hx, hr]
  exact hK _ _ (h v' w' h2 h3)
end Go.Proofs.YtbhfblogjlpnlaaDoor
