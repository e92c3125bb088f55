/-
  Towards the contract of the reference's End: its At; what holds at its loop's head, and what each round does to that. Conditions: the cells that are read are there.
-/
import Derived.Test.YtccomiigdpfbpaaDoorAwake2
import Derived.Maps.AppendAt
namespace Go.Proofs.YtccomiigdpfbpaaDoor
open Go.RowKit

set_option maxRecDepth 100000 in
theorem refAt_none (A : Option Addr) (cap : Nat) (c : Int) (w : World) :
    Calls Tryd.prog 20 #[.slice A 0 cap, .int .i64 c] w fun e w' => e = .returned (.agg #[.int .i64 0, .int .i64 0, .int .i64 c]) ∧ Below w.heap.size w w' := by
  go_enter Tryd.func20, Tryd.ntmps20
  go_wp2
  exact bodyPost_ret (v := .agg #[.int .i64 0, .int .i64 0, .int .i64 c]) (by simp [results, Tryd.results20, go_sem]) rfl ⟨rfl, (Below.refl _ _).alloc (Nat.le_refl _) _⟩

set_option maxRecDepth 100000 in
set_option maxHeartbeats 1000000 in
theorem refAt_some (b o len cap : Nat) (hlen : 0 < len) (k L C : Int) (s : ByteArray) (n sc c : Int) (w : World) (ht : TokAt w b o k L C s n sc) :
    Calls Tryd.prog 20 #[.slice (some ⟨b, o, none⟩) len cap, .int .i64 c] w fun e w' => e = .returned (.agg #[.int .i64 L, .int .i64 C, .int .i64 c]) ∧ Below w.heap.size w w' := by
  have hbl : b < w.heap.size := World.block_lt_of_cell? w _ ht.c1
  have c1 : (w.alloc (.cells #[.int .i64 0, .int .i64 0, .int .i64 0] 30)).cell? ⟨b, o + 1, none⟩ = some (.int .i64 L) := (World.cell?_alloc_lt _ _ ⟨b, o + 1, none⟩ hbl).trans ht.c1
  have c2 : (w.alloc (.cells #[.int .i64 0, .int .i64 0, .int .i64 0] 30)).cell? ⟨b, o + 2, none⟩ = some (.int .i64 C) := (World.cell?_alloc_lt _ _ ⟨b, o + 2, none⟩ hbl).trans ht.c2
  have hz : ((len : Int) == 0) = false := by simp; omega
  have hl : (0 : Int) < len := by omega
  clear ht
  go_enter Tryd.func20, Tryd.ntmps20
  go_wp2
  go_region
  all_goals (try go_wp2)
  all_goals
    exact bodyPost_ret (v := .agg #[.int .i64 L, .int .i64 C, .int .i64 c]) (by simp [results, Tryd.results20, go_sem]) rfl ⟨rfl, ((Below.refl _ _).alloc (Nat.le_refl _) _).drew⟩

theorem refErrLine {F : Lns} {w : World} {B O i : Nat} (c : Int) (h : F.At w B O i) :
    Calls Tryd.prog 20 #[.slice (F.A i) (F.len i) (F.cap i), .int .i64 c] w fun e w' => e = .returned (.agg #[.int .i64 (F.line i), .int .i64 (F.col i), .int .i64 c]) ∧ Below w.heap.size w w' := by
  unfold Lns.line Lns.col
  by_cases hl : F.len i = 0
  · rw [if_pos hl, if_pos hl, hl]
    exact refAt_none _ _ _ _
  · rw [if_neg hl, if_neg hl]
    obtain ⟨b, o, ha, ht⟩ := h.tok (by omega)
    rw [ha]
    exact refAt_some b o _ _ (by omega) _ _ _ _ _ _ c w ht

theorem Tryd.infoInt : (Tryd.prog.info? 3).map (fun i => (i.zero, i.size, i.bytes)) = some (some (.int .i64 0), 1, 8) := by kernel_rfl

/-- The kinds, and the Elses, of a stack. -/
def k1 (st : List (Int × Int)) : List Value := st.map fun x => .int .i64 x.1
def k2 (st : List (Int × Int)) : List Value := st.map fun x => .int .i64 x.2
theorem k1_len (st : List (Int × Int)) : (k1 st).length = st.length := by simp [k1]
theorem k2_len (st : List (Int × Int)) : (k2 st).length = st.length := by simp [k2]
theorem k1_one (st : List (Int × Int)) : ∀ u ∈ k1 st, u.oneCell' = true := by
  intro u hu
  unfold k1 at hu
  obtain ⟨x, _, rfl⟩ := List.mem_map.1 hu
  rfl
theorem k2_one (st : List (Int × Int)) : ∀ u ∈ k2 st, u.oneCell' = true := by
  intro u hu
  unfold k2 at hu
  obtain ⟨x, _, rfl⟩ := List.mem_map.1 hu
  rfl

/-- The two rows of a stack. -/
structure Rows2 (w : World) (base : Nat) (v8 v9 : Value) (st : List (Int × Int)) : Prop where
  own8 : w.ownsRow base 3 1 v8 st.length (k1 st)
  own9 : w.ownsRow base 3 1 v9 st.length (k2 st)
  ne : v8.ownBlock ≠ v9.ownBlock

theorem Rows2.below {w w' : World} {base : Nat} {v8 v9 : Value} {st : List (Int × Int)} (h : Rows2 w base v8 v9 st) (hb : Below w.heap.size w w') : Rows2 w' base v8 v9 st :=
  ⟨own_below h.own8 hb, own_below h.own9 hb, h.ne⟩

/-- What a stack that is not empty gives a walk. -/
theorem Rows2.parts {w : World} {base : Nat} {v8 v9 : Value} {rest : List (Int × Int)} {a o : Int} (h : Rows2 w base v8 v9 ((a, o) :: rest).reverse) :
    ∃ g8 c8 g9 c9, v8 = .slice (some ⟨g8, 0, none⟩) (rest.length + 1) c8 ∧ v9 = .slice (some ⟨g9, 0, none⟩) (rest.length + 1) c9 ∧ g8 ≠ g9 ∧ base ≤ g8 ∧ base ≤ g9 ∧ g8 < w.heap.size ∧ g9 < w.heap.size ∧ rest.length + 1 ≤ c8 ∧ rest.length + 1 ≤ c9 ∧
      w.cell? ⟨g8, rest.length, none⟩ = some (.int .i64 a) ∧ w.cell? ⟨g9, rest.length, none⟩ = some (.int .i64 o) ∧ w.frozen? ⟨g9, rest.length, none⟩ = false ∧ w.cell? ⟨g9, 0, none⟩ = some (.int .i64 (lastOther a o rest)) ∧
      (∀ j u, (k1 rest.reverse)[j]? = some u → w.cell? ((⟨g8, 0, none⟩ : Addr).add j) = some u) ∧ (∀ j u, (k2 rest.reverse)[j]? = some u → w.cell? ((⟨g9, 0, none⟩ : Addr).add j) = some u) := by
  have hl : ((a, o) :: rest).reverse.length = rest.length + 1 := by simp
  have h8 := h.own8
  have h9 := h.own9
  have hne := h.ne
  rw [hl] at h8 h9
  rcases h8.2 with ⟨_, h0⟩ | ⟨g8, c8, cur8, rfl, hb8, hg8, hn8, _⟩
  · omega
  rcases h9.2 with ⟨_, h0⟩ | ⟨g9, c9, cur9, rfl, hb9, hg9, hn9, _⟩
  · omega
  have hr : ((a, o) :: rest).reverse = rest.reverse ++ [(a, o)] := by simp
  have e1 : k1 ((a, o) :: rest).reverse = k1 rest.reverse ++ [.int .i64 a] := by rw [hr]; simp [k1]
  have e2 : k2 ((a, o) :: rest).reverse = k2 rest.reverse ++ [.int .i64 o] := by rw [hr]; simp [k2]
  have hadd : ∀ (g j : Nat), (⟨g, 0, none⟩ : Addr).add j = ⟨g, j, none⟩ := fun g j => by unfold Addr.add; split <;> simp_all
  have l1 : (k1 rest.reverse).length = rest.length := by rw [k1_len]; simp
  have l2 : (k2 rest.reverse).length = rest.length := by rw [k2_len]; simp
  refine ⟨g8, c8, g9, c9, rfl, rfl, by simpa [Value.ownBlock] using hne, hb8, hb9, lt_of_block hg8, lt_of_block hg9, hn8, hn9, ?_, ?_, h9.frozenAt _, ?_, ?_, ?_⟩
  · rw [h8.cellAt _ (by omega), e1, List.getElem?_append_right (by omega), l1]; simp
  · rw [h9.cellAt _ (by omega), e2, List.getElem?_append_right (by omega), l2]; simp
  · rw [h9.cellAt _ (by omega)]
    have hb := List.dropLast_concat_getLast (l := (a, o) :: rest) (by simp)
    have hr2 : ((a, o) :: rest).reverse = ((a, o) :: rest).getLast (by simp) :: ((a, o) :: rest).dropLast.reverse := by
      conv => lhs; rw [← hb]
      simp
    rw [hr2]
    simp [k2, lastOther]
  · intro j u hu
    have hj : j < rest.length := by rw [← l1]; exact (List.getElem?_eq_some_iff.1 hu).1
    rw [hadd, h8.cellAt _ (by omega), e1, List.getElem?_append_left (by omega)]
    exact hu
  · intro j u hu
    have hj : j < rest.length := by rw [← l2]; exact (List.getElem?_eq_some_iff.1 hu).1
    rw [hadd, h9.cellAt _ (by omega), e2, List.getElem?_append_left (by omega)]
    exact hu

/-- An Else is stored. -/
theorem Rows2.turn {w : World} {base g9 c9 : Nat} {v8 : Value} {rest : List (Int × Int)} {a o i : Int} (h : Rows2 w base v8 (.slice (some ⟨g9, 0, none⟩) (rest.length + 1) c9) ((a, o) :: rest).reverse) :
    Rows2 (w.setCell ⟨g9, rest.length, none⟩ (.int .i64 i)) base v8 (.slice (some ⟨g9, 0, none⟩) (rest.length + 1) c9) ((a, i) :: rest).reverse := by
  have hl : ((a, o) :: rest).reverse.length = rest.length + 1 := by simp
  have hl2 : ((a, i) :: rest).reverse.length = rest.length + 1 := by simp
  have h9 := h.own9
  rw [hl] at h9
  have hs := h9.stored rest.length (.int .i64 i)
  have e1 : k1 ((a, i) :: rest).reverse = k1 ((a, o) :: rest).reverse := by simp [k1]
  have e2 : (k2 ((a, o) :: rest).reverse).set rest.length (.int .i64 i) = k2 ((a, i) :: rest).reverse := by
    simp [k2]
  refine ⟨?_, ?_, h.ne⟩
  · rw [e1, hl2]
    have h8 := h.own8
    rw [hl] at h8
    exact ownsRow_setCell_other h8 (by have := h.ne; simpa [Value.ownBlock] using this) _
  · rw [hl2, ← e2]
    exact hs.1
end Go.Proofs.YtccomiigdpfbpaaDoor
