/-
  The contract of the stack's take where a line opens a further block. Conditions: the stack's variable and its row are in memory of the call's own; the stack is not empty, and holds at most 5000.
-/
import Derived.Test.YtccomiigdpfbpaaDoorTake
namespace Go.Proofs.YtccomiigdpfbpaaDoor
open Go.RowKit

theorem own_shape' {w : World} {base e size n : Nat} {v : Value} {xs : List Value} (h : w.ownsRow base e size v n xs) : ∃ A c, v = .slice A n c := by
  rcases h.2 with ⟨rfl, rfl⟩ | ⟨g, cap, cur, rfl, _⟩
  · exact ⟨none, 0, rfl⟩
  · exact ⟨_, _, rfl⟩
theorem own_of_parts {w : World} {base g n cap : Nat} {cur : Array Value} {xs : List Value} (hb : base ≤ g) (hg : Blk w g 49 cur) (hnc : n ≤ cap) (hcm : cap ≤ maxLen) (hsz : cur.size = cap * 2) (ht : cur.toList.take (n * 2) = xs) :
    w.ownsRow base 49 2 (.slice (some ⟨g, 0, none⟩) n cap) n xs := by
  refine ⟨?_, .inr ⟨g, cap, cur, rfl, hb, hg, hnc, hcm, hsz, ht⟩⟩
  rw [← ht, List.length_take, Array.length_toList, hsz]
  omega

set_option maxRecDepth 100000 in
set_option maxHeartbeats 4000000 in
theorem take_push (base g0 : Nat) (pre : List (Int × Int)) (a o i : Int) (kind : Nat) (w : World) (hn : pre.length ≤ 5000) (hbase : base ≤ w.heap.size) (h : Stk w base g0 (pre ++ [(a, o)])) (hk : kind = 1 ∨ kind = 3 ∨ kind = 5) :
    Calls Tryd.prog 19 #[.pointer (some ⟨g0, 0, none⟩), .int .i64 kind, .int .i64 i] w (TakeOut w base g0 (some (pre ++ [(a, o)] ++ [((kind : Int), -1)]))) := by
  obtain ⟨i0, hi, hz0, hz1, hz2⟩ := info_parts Tryd.infoOpened
  obtain ⟨g, cap, cur, h0, hb, hne, hg0, hg, hnc, hcm, hsz, ht, hcap, ca, co⟩ := h.parts
  have hv := hg0.cell 0
  simp at hv
  have hf := hg0.frozen 0
  have hl : (pre ++ [(a, o)]).length = pre.length + 1 := by simp
  have hsc : stCells (pre ++ [(a, o)]) = stCells pre ++ [.int .i64 a, .int .i64 o] := stCells_snoc _ _
  have hlo : (stCells pre ++ [Value.int .i64 a, .int .i64 o]).length = (pre.length + 1) * 2 := by rw [List.length_append, stCells_len]; simp; omega
  have holds : ∀ j u, (stCells pre ++ [Value.int .i64 a, .int .i64 o])[j]? = some u → w.cell? ((⟨g, 0, none⟩ : Addr).add j) = some u := by
    intro j u hu
    have hadd : (⟨g, 0, none⟩ : Addr).add j = ⟨g, j, none⟩ := by unfold Addr.add; split <;> simp_all
    rw [hadd, hg.cell j]
    rw [← ht, List.getElem?_take] at hu
    split at hu
    · simpa using hu
    · cases hu
  have hlt0 := hg0.lt
  have hltg := hg.lt
  have hown := fun hs => own_of_parts (n := pre.length + 1) hb hg hnc hcm hs ht
  have hgrown : ∀ (w1 : World) (o1 : Obj) (row : Option Nat) (v' : Value), (w.alloc o1).grownBy w1 row → row ≠ some g0 → (∀ x, row = some x → base ≤ x) → w1.ownsRow base 49 2 v' (pre.length + 1 + 1) (stCells pre ++ [.int .i64 a, .int .i64 o] ++ [.int .i64 (kind : Int), .int .i64 (-1)]) →
      Stk (w1.setCell ⟨g0, 0, none⟩ v') base g0 (pre ++ [(a, o)] ++ [((kind : Int), -1)]) ∧ Below base w (w1.setCell ⟨g0, 0, none⟩ v') ∧ w1.cell? ⟨g0, 0, none⟩ = some (.slice (some ⟨g, 0, none⟩) (pre.length + 1) cap) ∧ w1.frozen? ⟨g0, 0, none⟩ = false := by
    intro w1 o1 row v' hgr hrow hrb hwn
    have hk0 : w1.heap[g0]? = w.heap[g0]? := (hgr.block g0 (by simp; omega) (fun e => hrow e.symm)).trans (Below.heap_alloc w o1 g0 hlt0)
    have hg1 : Blk w1 g0 51 #[.slice (some ⟨g, 0, none⟩) (pre.length + 1) cap] := hk0.trans hg0
    refine ⟨Stk.push h0 hg1 (by rw [hl, hsc]; exact hwn), ?_, hg1.cell 0, hg1.frozen 0⟩
    exact Below.setCell (Below.grown ((Below.refl base w).alloc hbase o1) hgr (by simp; omega) hrb) h0 _
  have hr1 : (some g : Option Nat) ≠ some g0 := by simpa using hne
  have hr2 : ∀ x, (some g : Option Nat) = some x → base ≤ x := by intro x hx; cases hx; exact hb
  have hgr1 := fun w1 o1 v' hgr => hgrown w1 o1 (some g) v' hgr hr1 hr2
  have hgr2 := fun w1 o1 v' hgr => hgrown w1 o1 none v' hgr (by simp) (by intro x hx; cases hx)
  have HG := Lib.hid hgr1
  have HH := Lib.hid hgr2
  clear hgr1 hgr2 hr1 hr2
  have HO := Lib.hid holds
  have HN := Lib.hid hown
  have c1 := cells_new w #[.int .i64 (kind : Int), .int .i64 (-1)] 49 w.heap.size rfl
  have HC := Lib.hid c1
  clear hgrown holds hown c1 hg0 hg ht hsc hl h ca co
  rcases hcap with hcs | hce
  · have hown2 := HN.out hcs
    clear hcs
    rcases hk with rfl | rfl | rfl
    all_goals
      go_enter Tryd.func19, Tryd.ntmps19
      go_wp2_with (at_builtin; refine wpList_append_own _ rfl _ _ 51 rfl base 49 i0 (.agg #[.int .i64 0, .int .i64 0]) 2 16 Tryd.underlying51 hi hz0 hz1 hz2 rfl (by decide) _ _ _ rfl (hown2.alloc _) ⟨w.heap.size, 0, none⟩ 1 1 _ rfl rfl HC.out (by intro x hx; simp at hx; rcases hx with rfl | rfl <;> rfl) (by unfold maxLen; omega) (by omega) (by simp; omega) ?_; intro v' w1 hown' hgrow _; obtain ⟨A', c', rfl⟩ := own_shape' hown'; obtain ⟨k1, k2, k3, k4⟩ := HG.out w1 _ _ hgrow hown'; clear hown' hgrow)
      go_ret
      exact ⟨rfl, by simpa using k1, k2⟩
  · subst hce
    rcases hk with rfl | rfl | rfl
    all_goals
      go_enter Tryd.func19, Tryd.ntmps19
      go_wp2_with (at_builtin; refine wpList_append_grows _ rfl _ _ 51 rfl 49 i0 (.agg #[.int .i64 0, .int .i64 0]) 2 16 Tryd.underlying51 hi hz0 hz1 hz2 rfl (by decide) (some ⟨g, 0, none⟩) (pre.length + 1) (pre.length + 1) (stCells pre ++ [.int .i64 a, .int .i64 o]) rfl (by intro hx; cases hx) hlo (by intro b' hb' j u hu; cases hb'; exact (World.cell?_alloc_lt _ _ _ (by rw [show ((⟨g, 0, none⟩ : Addr).add j).block = g from by unfold Addr.add; split <;> rfl]; exact hltg)).trans (HO.out j u hu)) ⟨w.heap.size, 0, none⟩ 1 1 _ rfl rfl HC.out (by intro x hx; simp at hx; rcases hx with rfl | rfl <;> rfl) (by omega) (by unfold maxLen; omega) (by omega) ?_; intro v' w1 hown' hgrow; obtain ⟨A', c', rfl⟩ := own_shape' hown'; obtain ⟨k1, k2, k3, k4⟩ := HH.out w1 _ _ hgrow (own_base hown' (by simp; omega)); clear hown' hgrow)
      go_ret
      exact ⟨rfl, by simpa using k1, k2⟩

theorem take_any (base g0 : Nat) (pre : List (Int × Int)) (a o i : Int) (kind : Nat) (hk : kind ≤ 7) (w : World) (hn : pre.length ≤ 5000) (hbase : base ≤ w.heap.size) (h : Stk w base g0 (pre ++ [(a, o)])) :
    Calls Tryd.prog 19 #[.pointer (some ⟨g0, 0, none⟩), .int .i64 kind, .int .i64 i] w (TakeOut w base g0 (stepS pre a o kind i)) := by
  rcases (show kind = 0 ∨ kind = 1 ∨ kind = 2 ∨ kind = 3 ∨ kind = 4 ∨ kind = 5 ∨ kind = 6 ∨ kind = 7 by omega) with rfl | rfl | rfl | rfl | rfl | rfl | rfl | rfl
  · exact take_plain base g0 _ i w h
  · exact take_push base g0 pre a o i 1 w hn hbase h (.inl rfl)
  · exact take_shut base g0 pre a o 2 1 i w hn h (.inr (.inl ⟨rfl, rfl⟩))
  · exact take_push base g0 pre a o i 3 w hn hbase h (.inr (.inl rfl))
  · exact take_shut base g0 pre a o 4 3 i w hn h (.inr (.inr ⟨rfl, rfl⟩))
  · exact take_push base g0 pre a o i 5 w hn hbase h (.inr (.inr rfl))
  · exact take_else base g0 pre a o i w hn h
  · exact take_shut base g0 pre a o 7 5 i w hn h (.inl ⟨rfl, rfl⟩)
end Go.Proofs.YtccomiigdpfbpaaDoor
