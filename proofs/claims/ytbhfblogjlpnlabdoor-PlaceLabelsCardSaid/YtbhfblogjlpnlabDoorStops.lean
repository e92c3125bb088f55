/-
  The contract of place.lying: its iterator's word. Conditions: numbers in their bounds; the items' and the sizes' cells are there.
-/
import Derived.Test.YtbhfblogjlpnlabDoorLying
import Derived.Laws.MakeOwn
namespace Go.Proofs.YtbhfblogjlpnlabDoor
open Go.RowKit Go.Shelf
attribute [local go_sem] Oper.semAt_some

theorem lying_in (nn : Nat) (A : Option Addr) (n cap : Nat) (As : Option Addr) (m caps : Nat) (base : Int) (w : World) :
    CallsIn Fence.wide nn Tryd.prog 53 #[.slice A n cap, .slice As m caps, .int .u32 base] w fun e w' =>
      e = .returned (.func (.func 74) #[] #[.pointer (some ⟨w.heap.size + 1 + 1, 0, none⟩), .pointer (some ⟨w.heap.size, 0, none⟩), .pointer (some ⟨w.heap.size + 1, 0, none⟩)]) ∧
      w' = ((w.alloc (.cells #[.slice A n cap] 67)).alloc (.cells #[.slice As m caps] 68)).alloc (.cells #[.int .u32 base] 35) := by
  refine callsIn_of_wp Tryd.func53 rfl trivial ?_ rfl
  simp only [Tryd.ntmps53, List.size_toArray, List.length_cons, List.length_nil, Nat.reduceAdd, Nat.reduceSub, Array.replicate_succ, Array.replicate_zero, List.push_toArray, List.append_toArray, List.nil_append, List.cons_append]
  gi_wp2
  go_ret
  exact ⟨rfl, rfl⟩

/-- The first k places, or all of them. -/
theorem lying_stops (p : Pl) (hp : p.Ok) (nn : Nat) (hn : 3 ≤ nn) (b n₀ : Nat) (hbn : n₀ ≤ b) (A : Option Addr) (cap : Nat) (As : Option Addr) (caps : Nat) (w : World)
    (h1 : Boxed w b 67 (.slice A p.n cap)) (h2 : Boxed w (b + 1) 68 (.slice As p.m caps)) (h3 : Boxed w (b + 1 + 1) 35 (.int .u32 p.base)) (hF : ItsIn n₀ p.F w A p.n) (hS : SzsB n₀ p.S w As p.m) :
    SeqStopsK Fence.wide nn Tryd.prog 74 #[.pointer (some ⟨b + 1 + 1, 0, none⟩), .pointer (some ⟨b, 0, none⟩), .pointer (some ⟨b + 1, 0, none⟩)] (encL p) (KpL n₀ b) (fun ys => ys = upF p.n p.n) (fun pre => ∃ k, k ≤ p.n ∧ pre = upF p.n k) p.n w := fun l J Jx W hW hJ _ hY h0 => by
  have hb : Below n₀ w W := hW.mono (Nat.le_trans hbn (Nat.le_of_lt h1.lt))
  exact lying1_in p hp nn hn l b n₀ hbn A cap As caps J Jx W (fun s X Y hs hg => hJ s X Y none hs hg (fun r e => by cases e)) hY (h1.kept (grows_of hW) (by simp)) (h2.kept (grows_of hW) (by simp)) (h3.kept (grows_of hW) (by simp)) (hF.below hb) (hS.below hb) h0

theorem kpL_b {n₀ b B : Nat} (hB : n₀ ≤ B) (W : World) (l : Nat) (o o' : Obj) (hl : B ≤ l) (h : W.heap[l]? = some o) (hc : o.isCells = false) (_ : o.isWalk = false) : KpL n₀ b W (W.putObj l o') :=
  ⟨(Below.refl n₀ W).grown (grownBy_putObj' W l o') (by have := (Array.getElem?_eq_some_iff.1 h).1; omega) (fun k e => by cases e; omega), fun k cs t z hk _ => (World.putObj_heap_other (fun e => by subst e; rw [hk] at h; cases h; cases hc)).trans hk⟩
end Go.Proofs.YtbhfblogjlpnlabDoor
