/-
  The contract of place.Place. Conditions: numbers in their bounds; the items' and the sizes' cells are there; the handle of the type error.
-/
import Derived.Test.YtbhfblogjlpnlabDoorStops
namespace Go.Proofs.YtbhfblogjlpnlabDoor
open Go.RowKit Go.Shelf
attribute [local go_sem] Oper.semAt_some

theorem Tryd.infoU32 : (Tryd.prog.info? 35).map (fun i => (i.zero, i.size, i.bytes)) = some (some (.int .u32 0), 1, 4) := by kernel_rfl

def endOf (p : Pl) (pre : List (Fin p.n)) : Int := match pre.getLast? with
  | none => p.base
  | some x => p.at_ (x.1 + 1)
theorem endOf_snoc (p : Pl) (pre : List (Fin p.n)) (x : Fin p.n) : endOf p (pre ++ [x]) = p.at_ (x.1 + 1) := by simp [endOf]
def ats (p : Pl) (pre : List (Fin p.n)) : List Value := pre.map fun x => .int .u32 (p.at_ x.1)
theorem ats_snoc (p : Pl) (pre : List (Fin p.n)) (x : Fin p.n) : ats p (pre ++ [x]) = ats p pre ++ [.int .u32 (p.at_ x.1)] := by simp [ats]

theorem kpL_below {n₀ b : Nat} {W W' : World} (h : Below W.heap.size W W') (hn : n₀ ≤ W.heap.size) : KpL n₀ b W W' :=
  ⟨h.mono hn, fun k _ _ _ hk _ => (h.block k (Array.getElem?_eq_some_iff.1 hk).1).trans hk⟩
theorem kpL_grown {n₀ b g : Nat} {W W' : World} (h : W.grownBy W' (some g)) (hn : n₀ ≤ W.heap.size) (hg : n₀ ≤ g) (hgb : g < b) {cs : Array Value} {t : TypeId} {z : Nat × Nat} (hc : W.heap[g]? = some (.cells cs t z)) (ht : t ≠ 89 ∧ t ≠ 122) : KpL n₀ b W W' := by
  refine ⟨(Below.refl n₀ W).grown h hn (fun k e => by cases e; exact hg), fun k cs' t' z' hk hor => (h.block k (Array.getElem?_eq_some_iff.1 hk).1 (fun e => ?_)).trans hk⟩
  cases e
  rw [hk] at hc
  cases hc
  rcases hor with e | e | e
  · exact ht.1 e
  · exact ht.2 e
  · omega
theorem keepsOthers_below {W W' : World} (h : Below W.heap.size W W') : KeepsOthers W W' := ⟨h.size, fun k _ hk _ => (h.block k (Array.getElem?_eq_some_iff.1 hk).1).trans hk⟩
theorem keepsOthers_grown {g : Nat} {W W' : World} (h : W.grownBy W' (some g)) {cs : Array Value} {t : TypeId} {z : Nat × Nat} (hc : W.heap[g]? = some (.cells cs t z)) : KeepsOthers W W' :=
  KeepsOthers.of_grownBy h fun j o e hj => by cases e; rw [hc] at hj; cases hj; rfl

/-- What holds between two rounds. -/
structure PlInv (p : Pl) (A : Option Addr) (cap s : Nat) (w : World) (pre : List (Fin p.n)) (W : World) : Prop where
  b5 : Boxed W (s + 1 + 1 + 1 + 1 + 1) 70 (.slice (some ⟨s + 1 + 1 + 1 + 1, 0, none⟩) pre.length (p.n + 1))
  row : W.ownsRow s 35 1 (.slice (some ⟨s + 1 + 1 + 1 + 1, 0, none⟩) pre.length (p.n + 1)) pre.length (ats p pre)
  b6 : Boxed W (s + 1 + 1 + 1 + 1 + 1 + 1) 35 (.int .u32 (endOf p pre))
  b0 : Boxed W s 67 (.slice A p.n cap)
  b1 : Boxed W (s + 1) 35 (.int .u32 p.base)
  b2 : Boxed W (s + 1 + 1) 70 (.slice none 0 0)
  b3 : Boxed W (s + 1 + 1 + 1) 32 .nilIface
  b9 : Boxed W (s + 1 + 1 + 1 + 1 + 1 + 1 + 1 + 1 + 1) 35 (.int .u32 p.base)
  good : ∀ x ∈ pre, p.wrong x.1 = 0
  below : Below s w W

/-- A block that is one's own, and cells. -/
theorem row_cells {W : World} {base g n cap : Nat} {xs : List Value} (h : W.ownsRow base 35 1 (.slice (some ⟨g, 0, none⟩) n cap) n xs) : ∃ cs z, W.heap[g]? = some (.cells cs 35 z) ∧ base ≤ g := by
  rcases h.2 with ⟨h1, _⟩ | ⟨g', cap', cur, h1, hb, hgg, _⟩
  · cases h1
  · cases h1
    exact ⟨_, _, hgg, hb⟩
theorem PlInv.keep {p : Pl} {A : Option Addr} {cap s : Nat} {w : World} {pre : List (Fin p.n)} {W W' : World} {row : Option Nat} (h : PlInv p A cap s w pre W) (hg : W.grownBy W' row) (hr : ∀ r, row = some r → s + 1 + 1 + 1 + 1 + 1 + 1 + 1 + 1 + 1 < r) : PlInv p A cap s w pre W' := by
  have hne : ∀ k, k ≤ s + 1 + 1 + 1 + 1 + 1 + 1 + 1 + 1 + 1 → some k ≠ row := fun k hk e => by have := hr k e.symm; omega
  have hs := h.b9.lt
  refine ⟨h.b5.kept hg (hne _ (by omega)), h.row.kept hg (.inr (hne (s + 1 + 1 + 1 + 1) (by omega))), h.b6.kept hg (hne _ (by omega)), h.b0.kept hg (hne _ (by omega)), h.b1.kept hg (hne _ (by omega)), h.b2.kept hg (hne _ (by omega)), h.b3.kept hg (hne _ (by omega)), h.b9.kept hg (hne _ (by omega)), h.good, ?_⟩
  exact h.below.grown hg (by omega) (fun k e => by have := hr k e; omega)
theorem PlInv.grow {p : Pl} {A : Option Addr} {cap s : Nat} {w : World} {pre : List (Fin p.n)} {W W' : World} (h : PlInv p A cap s w pre W) (hb : Below W.heap.size W W') : PlInv p A cap s w pre W' :=
  h.keep (row := none) (grows_of hb) (fun r e => by cases e)

/-- What holds where a round has left for good. -/
def PlBad (p : Pl) (s : Nat) (w : World) (c : Code) (pre : List (Fin p.n)) (W : World) : Prop :=
  (c = .ret ∧ ∃ ini last, pre = ini ++ [last] ∧ (∀ x ∈ ini, p.wrong x.1 = 0) ∧ p.wrong last.1 ≠ 0 ∧ ∃ b, Boxed W (s + 1 + 1) 70 (.slice none 0 0) ∧ Boxed W (s + 1 + 1 + 1) 32 (.iface 107 (.pointer (some ⟨b, 0, none⟩))) ∧ s + 1 + 1 + 1 + 1 + 1 + 1 + 1 + 1 + 1 < b ∧
    Blk W b 113 #[.int .i64 (p.F last.1).L, .int .i64 (p.F last.1).C, .iface 111 (.int .i64 (p.wrong last.1))]) ∧ Below s w W

theorem blk_kept {W W' : World} {row : Option Nat} {b : Nat} {t : TypeId} {cs : Array Value} (h : Blk W b t cs) (hg : W.grownBy W' row) (hr : ∀ r, row = some r → ∃ o : Obj, W.heap[r]? = some o ∧ o.isCells = false) : Blk W' b t cs :=
  (hg.block b h.lt (fun e => by obtain ⟨o, ho, hc⟩ := hr b e.symm; rw [show W.heap[b]? = _ from h] at ho; cases ho; cases hc)).trans h
theorem boxed_kept {W W' : World} {row : Option Nat} {b : Nat} {t : TypeId} {v : Value} (h : Boxed W b t v) (hg : W.grownBy W' row) (hr : ∀ r, row = some r → ∃ o : Obj, W.heap[r]? = some o ∧ o.isCells = false) : Boxed W' b t v :=
  blk_kept (cs := #[v]) h hg hr
theorem plInv_own {p : Pl} {A : Option Addr} {cap s B : Nat} {w : World} (hB : s + 1 + 1 + 1 + 1 + 1 + 1 + 1 + 1 + 1 < B) : OwnFrom B (PlInv p A cap s w) := fun _ _ _ _ hs hg hr => hs.keep hg (fun r e => by have := (hr r e).1; omega)
theorem plBad_own {p : Pl} {s B : Nat} {w : World} (hs : w.heap.size = s) (hB : s ≤ B) (c : Code) : OwnFrom B (PlBad p s w c) := by
  refine OwnFrom.and (Own.from (fun pre X Y row h hg hr => ?_) _) (ownFrom_below (by omega) hB)
  obtain ⟨h1, ini, last, e1, e2, e3, b, e4, e5, e6, e7⟩ := h
  exact ⟨h1, ini, last, e1, e2, e3, b, boxed_kept e4 hg hr, boxed_kept e5 hg hr, e6, blk_kept e7 hg hr⟩

/-- The world in which the loop begins. -/
theorem plInv_start (p : Pl) (A : Option Addr) (cap : Nat) (As : Option Addr) (caps : Nat) (w : World) (hn : p.n ≤ 4000) :
    PlInv p A cap w.heap.size w [] ((((((((((w.alloc (.cells #[.slice A p.n cap] 67)).alloc (.cells #[.int .u32 p.base] 35)).alloc (.cells #[.slice none 0 0] 70)).alloc (.cells #[.nilIface] 32)).alloc (.cells (madeCells #[.int .u32 0] (p.n + 1)) 35)).alloc (.cells #[.slice (some ⟨w.heap.size + 1 + 1 + 1 + 1, 0, none⟩) 0 (p.n + 1)] 70)).alloc (.cells #[.int .u32 p.base] 35)).alloc (.cells #[.slice A p.n cap] 67)).alloc (.cells #[.slice As p.m caps] 68)).alloc (.cells #[.int .u32 p.base] 35)) ∧
    Boxed ((((((((((w.alloc (.cells #[.slice A p.n cap] 67)).alloc (.cells #[.int .u32 p.base] 35)).alloc (.cells #[.slice none 0 0] 70)).alloc (.cells #[.nilIface] 32)).alloc (.cells (madeCells #[.int .u32 0] (p.n + 1)) 35)).alloc (.cells #[.slice (some ⟨w.heap.size + 1 + 1 + 1 + 1, 0, none⟩) 0 (p.n + 1)] 70)).alloc (.cells #[.int .u32 p.base] 35)).alloc (.cells #[.slice A p.n cap] 67)).alloc (.cells #[.slice As p.m caps] 68)).alloc (.cells #[.int .u32 p.base] 35)) (w.heap.size + 1 + 1 + 1 + 1 + 1 + 1 + 1) 67 (.slice A p.n cap) ∧ Boxed ((((((((((w.alloc (.cells #[.slice A p.n cap] 67)).alloc (.cells #[.int .u32 p.base] 35)).alloc (.cells #[.slice none 0 0] 70)).alloc (.cells #[.nilIface] 32)).alloc (.cells (madeCells #[.int .u32 0] (p.n + 1)) 35)).alloc (.cells #[.slice (some ⟨w.heap.size + 1 + 1 + 1 + 1, 0, none⟩) 0 (p.n + 1)] 70)).alloc (.cells #[.int .u32 p.base] 35)).alloc (.cells #[.slice A p.n cap] 67)).alloc (.cells #[.slice As p.m caps] 68)).alloc (.cells #[.int .u32 p.base] 35)) (w.heap.size + 1 + 1 + 1 + 1 + 1 + 1 + 1 + 1) 68 (.slice As p.m caps) ∧ Boxed ((((((((((w.alloc (.cells #[.slice A p.n cap] 67)).alloc (.cells #[.int .u32 p.base] 35)).alloc (.cells #[.slice none 0 0] 70)).alloc (.cells #[.nilIface] 32)).alloc (.cells (madeCells #[.int .u32 0] (p.n + 1)) 35)).alloc (.cells #[.slice (some ⟨w.heap.size + 1 + 1 + 1 + 1, 0, none⟩) 0 (p.n + 1)] 70)).alloc (.cells #[.int .u32 p.base] 35)).alloc (.cells #[.slice A p.n cap] 67)).alloc (.cells #[.slice As p.m caps] 68)).alloc (.cells #[.int .u32 p.base] 35)) (w.heap.size + 1 + 1 + 1 + 1 + 1 + 1 + 1 + 1 + 1) 35 (.int .u32 p.base) ∧ ((((((((((w.alloc (.cells #[.slice A p.n cap] 67)).alloc (.cells #[.int .u32 p.base] 35)).alloc (.cells #[.slice none 0 0] 70)).alloc (.cells #[.nilIface] 32)).alloc (.cells (madeCells #[.int .u32 0] (p.n + 1)) 35)).alloc (.cells #[.slice (some ⟨w.heap.size + 1 + 1 + 1 + 1, 0, none⟩) 0 (p.n + 1)] 70)).alloc (.cells #[.int .u32 p.base] 35)).alloc (.cells #[.slice A p.n cap] 67)).alloc (.cells #[.slice As p.m caps] 68)).alloc (.cells #[.int .u32 p.base] 35)).heap.size = w.heap.size + 10 := by
  have k0 := Boxed.new w 67 (.slice A p.n cap)
  replace k0 := k0.alloc (.cells #[.int .u32 p.base] 35)
  replace k0 := k0.alloc (.cells #[.slice none 0 0] 70)
  replace k0 := k0.alloc (.cells #[.nilIface] 32)
  replace k0 := k0.alloc (.cells (madeCells #[.int .u32 0] (p.n + 1)) 35)
  replace k0 := k0.alloc (.cells #[.slice (some ⟨w.heap.size + 1 + 1 + 1 + 1, 0, none⟩) 0 (p.n + 1)] 70)
  replace k0 := k0.alloc (.cells #[.int .u32 p.base] 35)
  replace k0 := k0.alloc (.cells #[.slice A p.n cap] 67)
  replace k0 := k0.alloc (.cells #[.slice As p.m caps] 68)
  replace k0 := k0.alloc (.cells #[.int .u32 p.base] 35)
  have k1 := Boxed.new (w.alloc (.cells #[.slice A p.n cap] 67)) 35 (.int .u32 p.base)
  replace k1 := k1.alloc (.cells #[.slice none 0 0] 70)
  replace k1 := k1.alloc (.cells #[.nilIface] 32)
  replace k1 := k1.alloc (.cells (madeCells #[.int .u32 0] (p.n + 1)) 35)
  replace k1 := k1.alloc (.cells #[.slice (some ⟨w.heap.size + 1 + 1 + 1 + 1, 0, none⟩) 0 (p.n + 1)] 70)
  replace k1 := k1.alloc (.cells #[.int .u32 p.base] 35)
  replace k1 := k1.alloc (.cells #[.slice A p.n cap] 67)
  replace k1 := k1.alloc (.cells #[.slice As p.m caps] 68)
  replace k1 := k1.alloc (.cells #[.int .u32 p.base] 35)
  have k2 := Boxed.new ((w.alloc (.cells #[.slice A p.n cap] 67)).alloc (.cells #[.int .u32 p.base] 35)) 70 (.slice none 0 0)
  replace k2 := k2.alloc (.cells #[.nilIface] 32)
  replace k2 := k2.alloc (.cells (madeCells #[.int .u32 0] (p.n + 1)) 35)
  replace k2 := k2.alloc (.cells #[.slice (some ⟨w.heap.size + 1 + 1 + 1 + 1, 0, none⟩) 0 (p.n + 1)] 70)
  replace k2 := k2.alloc (.cells #[.int .u32 p.base] 35)
  replace k2 := k2.alloc (.cells #[.slice A p.n cap] 67)
  replace k2 := k2.alloc (.cells #[.slice As p.m caps] 68)
  replace k2 := k2.alloc (.cells #[.int .u32 p.base] 35)
  have k3 := Boxed.new (((w.alloc (.cells #[.slice A p.n cap] 67)).alloc (.cells #[.int .u32 p.base] 35)).alloc (.cells #[.slice none 0 0] 70)) 32 (.nilIface)
  replace k3 := k3.alloc (.cells (madeCells #[.int .u32 0] (p.n + 1)) 35)
  replace k3 := k3.alloc (.cells #[.slice (some ⟨w.heap.size + 1 + 1 + 1 + 1, 0, none⟩) 0 (p.n + 1)] 70)
  replace k3 := k3.alloc (.cells #[.int .u32 p.base] 35)
  replace k3 := k3.alloc (.cells #[.slice A p.n cap] 67)
  replace k3 := k3.alloc (.cells #[.slice As p.m caps] 68)
  replace k3 := k3.alloc (.cells #[.int .u32 p.base] 35)
  have k4 := World.ownsRow_made (base := w.heap.size) (e := 35) (size := 1) ((((w.alloc (.cells #[.slice A p.n cap] 67)).alloc (.cells #[.int .u32 p.base] 35)).alloc (.cells #[.slice none 0 0] 70)).alloc (.cells #[.nilIface] 32)) (madeCells #[.int .u32 0] (p.n + 1)) (p.n + 1) (by simp; omega) (by unfold maxLen; omega) (by simp [size_madeCells])
  replace k4 := k4.alloc (.cells #[.slice (some ⟨w.heap.size + 1 + 1 + 1 + 1, 0, none⟩) 0 (p.n + 1)] 70)
  replace k4 := k4.alloc (.cells #[.int .u32 p.base] 35)
  replace k4 := k4.alloc (.cells #[.slice A p.n cap] 67)
  replace k4 := k4.alloc (.cells #[.slice As p.m caps] 68)
  replace k4 := k4.alloc (.cells #[.int .u32 p.base] 35)
  have k5 := Boxed.new (((((w.alloc (.cells #[.slice A p.n cap] 67)).alloc (.cells #[.int .u32 p.base] 35)).alloc (.cells #[.slice none 0 0] 70)).alloc (.cells #[.nilIface] 32)).alloc (.cells (madeCells #[.int .u32 0] (p.n + 1)) 35)) 70 (.slice (some ⟨w.heap.size + 1 + 1 + 1 + 1, 0, none⟩) 0 (p.n + 1))
  replace k5 := k5.alloc (.cells #[.int .u32 p.base] 35)
  replace k5 := k5.alloc (.cells #[.slice A p.n cap] 67)
  replace k5 := k5.alloc (.cells #[.slice As p.m caps] 68)
  replace k5 := k5.alloc (.cells #[.int .u32 p.base] 35)
  have k6 := Boxed.new ((((((w.alloc (.cells #[.slice A p.n cap] 67)).alloc (.cells #[.int .u32 p.base] 35)).alloc (.cells #[.slice none 0 0] 70)).alloc (.cells #[.nilIface] 32)).alloc (.cells (madeCells #[.int .u32 0] (p.n + 1)) 35)).alloc (.cells #[.slice (some ⟨w.heap.size + 1 + 1 + 1 + 1, 0, none⟩) 0 (p.n + 1)] 70)) 35 (.int .u32 p.base)
  replace k6 := k6.alloc (.cells #[.slice A p.n cap] 67)
  replace k6 := k6.alloc (.cells #[.slice As p.m caps] 68)
  replace k6 := k6.alloc (.cells #[.int .u32 p.base] 35)
  have k7 := Boxed.new (((((((w.alloc (.cells #[.slice A p.n cap] 67)).alloc (.cells #[.int .u32 p.base] 35)).alloc (.cells #[.slice none 0 0] 70)).alloc (.cells #[.nilIface] 32)).alloc (.cells (madeCells #[.int .u32 0] (p.n + 1)) 35)).alloc (.cells #[.slice (some ⟨w.heap.size + 1 + 1 + 1 + 1, 0, none⟩) 0 (p.n + 1)] 70)).alloc (.cells #[.int .u32 p.base] 35)) 67 (.slice A p.n cap)
  replace k7 := k7.alloc (.cells #[.slice As p.m caps] 68)
  replace k7 := k7.alloc (.cells #[.int .u32 p.base] 35)
  have k8 := Boxed.new ((((((((w.alloc (.cells #[.slice A p.n cap] 67)).alloc (.cells #[.int .u32 p.base] 35)).alloc (.cells #[.slice none 0 0] 70)).alloc (.cells #[.nilIface] 32)).alloc (.cells (madeCells #[.int .u32 0] (p.n + 1)) 35)).alloc (.cells #[.slice (some ⟨w.heap.size + 1 + 1 + 1 + 1, 0, none⟩) 0 (p.n + 1)] 70)).alloc (.cells #[.int .u32 p.base] 35)).alloc (.cells #[.slice A p.n cap] 67)) 68 (.slice As p.m caps)
  replace k8 := k8.alloc (.cells #[.int .u32 p.base] 35)
  have k9 := Boxed.new (((((((((w.alloc (.cells #[.slice A p.n cap] 67)).alloc (.cells #[.int .u32 p.base] 35)).alloc (.cells #[.slice none 0 0] 70)).alloc (.cells #[.nilIface] 32)).alloc (.cells (madeCells #[.int .u32 0] (p.n + 1)) 35)).alloc (.cells #[.slice (some ⟨w.heap.size + 1 + 1 + 1 + 1, 0, none⟩) 0 (p.n + 1)] 70)).alloc (.cells #[.int .u32 p.base] 35)).alloc (.cells #[.slice A p.n cap] 67)).alloc (.cells #[.slice As p.m caps] 68)) 35 (.int .u32 p.base)
  simp only [World.size_alloc] at k1 k2 k3 k4 k5 k6 k7 k8 k9
  refine ⟨⟨k5, k4, k6, k0, k1, k2, k3, k9, (fun x hx => by cases hx), ?_⟩, k7, k8, k9, by simp⟩
  exact (((((((((((Below.refl w.heap.size w).alloc (Nat.le_refl _) (.cells #[.slice A p.n cap] 67)).alloc (by simp) (.cells #[.int .u32 p.base] 35)).alloc (by simp; omega) (.cells #[.slice none 0 0] 70)).alloc (by simp; omega) (.cells #[.nilIface] 32)).alloc (by simp; omega) (.cells (madeCells #[.int .u32 0] (p.n + 1)) 35)).alloc (by simp; omega) (.cells #[.slice (some ⟨w.heap.size + 1 + 1 + 1 + 1, 0, none⟩) 0 (p.n + 1)] 70)).alloc (by simp; omega) (.cells #[.int .u32 p.base] 35)).alloc (by simp; omega) (.cells #[.slice A p.n cap] 67)).alloc (by simp; omega) (.cells #[.slice As p.m caps] 68)).alloc (by simp; omega) (.cells #[.int .u32 p.base] 35))

theorem wrong_zero {p : Pl} {k : Nat} (h : p.wrong k = 0) : 0 ≤ p.by_ k ∧ p.at_ k + p.by_ k ≤ 4294967295 ∧ p.at_ k + p.by_ k - p.base ≤ 65536 := by
  unfold Pl.wrong wrongN at h
  split at h
  · cases h
  · split at h
    · cases h
    · omega

/-- A round that goes on: the address is appended, the end is set. -/
theorem plInv_next {p : Pl} {A : Option Addr} {cap s : Nat} {w w2 w3 : World} {pre : List (Fin p.n)} {x : Fin p.n} {tmp o2 : Obj} (hI : PlInv p A cap s w pre w2) (hx : p.wrong x.1 = 0)
    (hown : w3.ownsRow s 35 1 (.slice (some ⟨s + 1 + 1 + 1 + 1, 0, none⟩) (pre.length + 1) (p.n + 1)) (pre.length + 1) (ats p pre ++ [.int .u32 (p.at_ x.1)])) (hg : (w2.alloc tmp).grownBy w3 (some (s + 1 + 1 + 1 + 1))) :
    PlInv p A cap s w (pre ++ [x]) (((w3.setCell ⟨s + 1 + 1 + 1 + 1 + 1, 0, none⟩ (.slice (some ⟨s + 1 + 1 + 1 + 1, 0, none⟩) (pre.length + 1) (p.n + 1))).setCell ⟨s + 1 + 1 + 1 + 1 + 1 + 1, 0, none⟩ (.int .u32 (p.at_ x.1 + p.by_ x.1))).alloc o2) ∧
    KeepsOthers w2 (((w3.setCell ⟨s + 1 + 1 + 1 + 1 + 1, 0, none⟩ (.slice (some ⟨s + 1 + 1 + 1 + 1, 0, none⟩) (pre.length + 1) (p.n + 1))).setCell ⟨s + 1 + 1 + 1 + 1 + 1 + 1, 0, none⟩ (.int .u32 (p.at_ x.1 + p.by_ x.1))).alloc o2) ∧
    KpL s (s + 1 + 1 + 1 + 1 + 1 + 1 + 1) w2 (((w3.setCell ⟨s + 1 + 1 + 1 + 1 + 1, 0, none⟩ (.slice (some ⟨s + 1 + 1 + 1 + 1, 0, none⟩) (pre.length + 1) (p.n + 1))).setCell ⟨s + 1 + 1 + 1 + 1 + 1 + 1, 0, none⟩ (.int .u32 (p.at_ x.1 + p.by_ x.1))).alloc o2) := by
  have hsz := hI.b9.lt
  have hs3 := hg.size
  simp at hs3
  have ha := (Below.refl w2.heap.size w2).alloc (Nat.le_refl _) tmp
  have hIa := hI.grow ha
  -- behind the append
  have n4 : ∀ k, k ≠ s + 1 + 1 + 1 + 1 → some k ≠ some (s + 1 + 1 + 1 + 1) := fun k hk e => hk (by cases e; rfl)
  have i5 := hIa.b5.kept hg (n4 _ (by omega))
  have i6 := hIa.b6.kept hg (n4 _ (by omega))
  have i0 := hIa.b0.kept hg (n4 _ (by omega))
  have i1 := hIa.b1.kept hg (n4 _ (by omega))
  have i2 := hIa.b2.kept hg (n4 _ (by omega))
  have i3 := hIa.b3.kept hg (n4 _ (by omega))
  have i9 := hIa.b9.kept hg (n4 _ (by omega))
  have s5 := grownBy_setCell' w3 (s + 1 + 1 + 1 + 1 + 1) (.slice (some ⟨s + 1 + 1 + 1 + 1, 0, none⟩) (pre.length + 1) (p.n + 1))
  have n5 : ∀ k, k ≠ s + 1 + 1 + 1 + 1 + 1 → some k ≠ some (s + 1 + 1 + 1 + 1 + 1) := fun k hk e => hk (by cases e; rfl)
  have j5 := i5.set (.slice (some ⟨s + 1 + 1 + 1 + 1, 0, none⟩) (pre.length + 1) (p.n + 1))
  have jr := hown.kept s5 (.inr (n5 (s + 1 + 1 + 1 + 1) (by omega)))
  have j6 := i6.kept s5 (n5 _ (by omega))
  have j0 := i0.kept s5 (n5 _ (by omega))
  have j1 := i1.kept s5 (n5 _ (by omega))
  have j2 := i2.kept s5 (n5 _ (by omega))
  have j3 := i3.kept s5 (n5 _ (by omega))
  have j9 := i9.kept s5 (n5 _ (by omega))
  have s6 := grownBy_setCell' (w3.setCell ⟨s + 1 + 1 + 1 + 1 + 1, 0, none⟩ (.slice (some ⟨s + 1 + 1 + 1 + 1, 0, none⟩) (pre.length + 1) (p.n + 1))) (s + 1 + 1 + 1 + 1 + 1 + 1) (.int .u32 (p.at_ x.1 + p.by_ x.1))
  have n6 : ∀ k, k ≠ s + 1 + 1 + 1 + 1 + 1 + 1 → some k ≠ some (s + 1 + 1 + 1 + 1 + 1 + 1) := fun k hk e => hk (by cases e; rfl)
  obtain ⟨cs, z, hrow, hbase⟩ := row_cells hIa.row
  have hb4 : Below s w (((w3.setCell ⟨s + 1 + 1 + 1 + 1 + 1, 0, none⟩ (.slice (some ⟨s + 1 + 1 + 1 + 1, 0, none⟩) (pre.length + 1) (p.n + 1))).setCell ⟨s + 1 + 1 + 1 + 1 + 1 + 1, 0, none⟩ (.int .u32 (p.at_ x.1 + p.by_ x.1))).alloc o2) := by
    refine ((((hIa.below.grown hg (by simp; omega) (fun k e => by cases e; omega)).setCell (p := ⟨s + 1 + 1 + 1 + 1 + 1, 0, none⟩) (by simp; omega) _).setCell (p := ⟨s + 1 + 1 + 1 + 1 + 1 + 1, 0, none⟩) (by simp; omega) _).alloc (by simp; omega) _)
  refine ⟨⟨?_, ?_, ?_, ((j0.kept s6 (n6 _ (by omega))).alloc o2), ((j1.kept s6 (n6 _ (by omega))).alloc o2), ((j2.kept s6 (n6 _ (by omega))).alloc o2), ((j3.kept s6 (n6 _ (by omega))).alloc o2), ((j9.kept s6 (n6 _ (by omega))).alloc o2), ?_, hb4⟩, ?_, ?_⟩
  · rw [List.length_append]; exact (j5.kept s6 (n6 _ (by omega))).alloc o2
  · rw [List.length_append, ats_snoc]; exact (jr.kept s6 (.inr (n6 (s + 1 + 1 + 1 + 1) (by omega)))).alloc o2
  · rw [endOf_snoc]; exact (j6.set _).alloc o2
  · intro y hy
    rcases List.mem_append.1 hy with h | h
    · exact hI.good y h
    · simp at h; subst h; exact hx
  · exact (((((keepsOthers_below ha).trans (keepsOthers_grown hg hrow)).trans (keepsOthers_grown s5 i5)).trans (keepsOthers_grown s6 j6)).trans (KeepsOthers.alloc _ _))
  · refine ((((kpL_below ha (by omega)).trans (kpL_grown hg (by simp; omega) hbase (by omega) hrow (by decide))).trans (kpL_grown s5 (by omega) (by omega) (by omega) i5 (by decide))).trans (kpL_grown s6 (by simp; omega) (by omega) (by omega) j6 (by decide))).trans (kpL_below ((Below.refl _ _).alloc (Nat.le_refl _) o2) (by simp; omega))

/-- A round that leaves for good: the results are set. -/
theorem plBad_next {p : Pl} {A : Option Addr} {cap s b : Nat} {w w3 : World} {pre : List (Fin p.n)} {x : Fin p.n} (hI : PlInv p A cap s w pre w3) (hx : p.wrong x.1 ≠ 0) (hb : s + 1 + 1 + 1 + 1 + 1 + 1 + 1 + 1 + 1 < b)
    (hk : Blk w3 b 113 #[.int .i64 (p.F x.1).L, .int .i64 (p.F x.1).C, .iface 111 (.int .i64 (p.wrong x.1))]) :
    PlBad p s w .ret (pre ++ [x]) ((w3.setCell ⟨s + 1 + 1, 0, none⟩ (.slice none 0 0)).setCell ⟨s + 1 + 1 + 1, 0, none⟩ (.iface 107 (.pointer (some ⟨b, 0, none⟩)))) ∧
    KeepsOthers w3 ((w3.setCell ⟨s + 1 + 1, 0, none⟩ (.slice none 0 0)).setCell ⟨s + 1 + 1 + 1, 0, none⟩ (.iface 107 (.pointer (some ⟨b, 0, none⟩)))) := by
  have s2 := grownBy_setCell' w3 (s + 1 + 1) (.slice none 0 0)
  have n2 : ∀ k, k ≠ s + 1 + 1 → some k ≠ some (s + 1 + 1) := fun k hk e => hk (by cases e; rfl)
  have j3 := hI.b3.kept s2 (n2 _ (by omega))
  have s3 := grownBy_setCell' (w3.setCell ⟨s + 1 + 1, 0, none⟩ (.slice none 0 0)) (s + 1 + 1 + 1) (.iface 107 (.pointer (some ⟨b, 0, none⟩)))
  have n3 : ∀ k, k ≠ s + 1 + 1 + 1 → some k ≠ some (s + 1 + 1 + 1) := fun k hk e => hk (by cases e; rfl)
  refine ⟨⟨⟨rfl, pre, x, rfl, hI.good, hx, b, (hI.b2.set _).kept s3 (n3 _ (by omega)), j3.set _, hb, ?_⟩, ?_⟩, (keepsOthers_grown s2 hI.b2).trans (keepsOthers_grown s3 j3)⟩
  · exact (hk.far (p := ⟨s + 1 + 1, 0, none⟩) (by simp; omega) _).far (p := ⟨s + 1 + 1 + 1, 0, none⟩) (by simp; omega) _
  · exact (hI.below.setCell (p := ⟨s + 1 + 1, 0, none⟩) (by simp; omega) _).setCell (p := ⟨s + 1 + 1 + 1, 0, none⟩) (by simp; omega) _

theorem ats_up (p : Pl) : ∀ k, k ≤ p.n → ats p (upF p.n k) = (List.range k).map fun j => .int .u32 (p.at_ j)
  | 0, _ => rfl
  | k + 1, h => by rw [upF_succ (show k < p.n by omega), ats_snoc, ats_up p k (by omega), List.range_succ]; simp
theorem endOf_up (p : Pl) : ∀ k, k ≤ p.n → endOf p (upF p.n k) = p.at_ k
  | 0, _ => rfl
  | k + 1, h => by rw [upF_succ (show k < p.n by omega), endOf_snoc]
theorem mem_upF {n j : Nat} (hj : j < n) : ∀ {k : Nat}, k ≤ n → j < k → (⟨j, hj⟩ : Fin n) ∈ upF n k
  | 0, _, h => by omega
  | k + 1, hk, h => by
    rw [upF_succ (show k < n by omega), List.mem_append]
    rcases Nat.lt_or_ge j k with h1 | h1
    · exact .inl (mem_upF hj (by omega) h1)
    · obtain rfl : j = k := by omega
      exact .inr (by simp)

/-- All rounds are over: the end is appended, the results are set. -/
theorem plDone {p : Pl} {A : Option Addr} {cap s : Nat} {w W w3 : World} {tmp : Obj} (hI : PlInv p A cap s w (upF p.n p.n) W)
    (hown : w3.ownsRow s 35 1 (.slice (some ⟨s + 1 + 1 + 1 + 1, 0, none⟩) (p.n + 1) (p.n + 1)) (p.n + 1) (ats p (upF p.n p.n) ++ [.int .u32 (endOf p (upF p.n p.n))])) (hg : (W.alloc tmp).grownBy w3 (some (s + 1 + 1 + 1 + 1))) :
    KeepsOthers W ((w3.setCell ⟨s + 1 + 1, 0, none⟩ (.slice (some ⟨s + 1 + 1 + 1 + 1, 0, none⟩) (p.n + 1) (p.n + 1))).setCell ⟨s + 1 + 1 + 1, 0, none⟩ .nilIface) ∧
    Below s w ((w3.setCell ⟨s + 1 + 1, 0, none⟩ (.slice (some ⟨s + 1 + 1 + 1 + 1, 0, none⟩) (p.n + 1) (p.n + 1))).setCell ⟨s + 1 + 1 + 1, 0, none⟩ .nilIface) ∧
    Boxed ((w3.setCell ⟨s + 1 + 1, 0, none⟩ (.slice (some ⟨s + 1 + 1 + 1 + 1, 0, none⟩) (p.n + 1) (p.n + 1))).setCell ⟨s + 1 + 1 + 1, 0, none⟩ .nilIface) (s + 1 + 1) 70 (.slice (some ⟨s + 1 + 1 + 1 + 1, 0, none⟩) (p.n + 1) (p.n + 1)) ∧
    Boxed ((w3.setCell ⟨s + 1 + 1, 0, none⟩ (.slice (some ⟨s + 1 + 1 + 1 + 1, 0, none⟩) (p.n + 1) (p.n + 1))).setCell ⟨s + 1 + 1 + 1, 0, none⟩ .nilIface) (s + 1 + 1 + 1) 32 .nilIface ∧
    ((w3.setCell ⟨s + 1 + 1, 0, none⟩ (.slice (some ⟨s + 1 + 1 + 1 + 1, 0, none⟩) (p.n + 1) (p.n + 1))).setCell ⟨s + 1 + 1 + 1, 0, none⟩ .nilIface).ownsRow s 35 1 (.slice (some ⟨s + 1 + 1 + 1 + 1, 0, none⟩) (p.n + 1) (p.n + 1)) (p.n + 1) ((List.range (p.n + 1)).map fun j => .int .u32 (p.at_ j)) := by
  have hsz := hI.b9.lt
  have ha := (Below.refl W.heap.size W).alloc (Nat.le_refl _) tmp
  have hIa := hI.grow ha
  have n4 : ∀ k, k ≠ s + 1 + 1 + 1 + 1 → some k ≠ some (s + 1 + 1 + 1 + 1) := fun k hk e => hk (by cases e; rfl)
  have i2 := hIa.b2.kept hg (n4 _ (by omega))
  have i3 := hIa.b3.kept hg (n4 _ (by omega))
  have s2 := grownBy_setCell' w3 (s + 1 + 1) (.slice (some ⟨s + 1 + 1 + 1 + 1, 0, none⟩) (p.n + 1) (p.n + 1))
  have n2 : ∀ k, k ≠ s + 1 + 1 → some k ≠ some (s + 1 + 1) := fun k hk e => hk (by cases e; rfl)
  have j3 := i3.kept s2 (n2 _ (by omega))
  have s3 := grownBy_setCell' (w3.setCell ⟨s + 1 + 1, 0, none⟩ (.slice (some ⟨s + 1 + 1 + 1 + 1, 0, none⟩) (p.n + 1) (p.n + 1))) (s + 1 + 1 + 1) .nilIface
  have n3 : ∀ k, k ≠ s + 1 + 1 + 1 → some k ≠ some (s + 1 + 1 + 1) := fun k hk e => hk (by cases e; rfl)
  obtain ⟨cs, z, hrow, hbase⟩ := row_cells hIa.row
  have hl : ats p (upF p.n p.n) ++ [.int .u32 (endOf p (upF p.n p.n))] = (List.range (p.n + 1)).map fun j => .int .u32 (p.at_ j) := by
    rw [ats_up p p.n (Nat.le_refl _), endOf_up p p.n (Nat.le_refl _), List.range_succ]; simp
  rw [hl] at hown
  refine ⟨((((keepsOthers_below ha).trans (keepsOthers_grown hg hrow)).trans (keepsOthers_grown s2 i2)).trans (keepsOthers_grown s3 j3)), ?_, (i2.set _).kept s3 (n3 _ (by omega)), j3.set _, (hown.kept s2 (.inr (n2 (s + 1 + 1 + 1 + 1) (by omega)))).kept s3 (.inr (n3 (s + 1 + 1 + 1 + 1) (by omega)))⟩
  exact ((hIa.below.grown hg (by simp; omega) (fun k e => by cases e; omega)).setCell (p := ⟨s + 1 + 1, 0, none⟩) (by simp; omega) _).setCell (p := ⟨s + 1 + 1 + 1, 0, none⟩) (by simp; omega) _
end Go.Proofs.YtbhfblogjlpnlabDoor
