/-
  Symbols as values and as cells; the contract of the law's own Syms, which makes the program's symbols of the document's. Conditions: at most 100 symbols, whose cells are there.
-/
import Derived.Test.YtbhfblogjlpnlabDoorTaken
import Derived.Deep.LoopGhost
import Derived.Deep.DeepCutAuto
import Derived.Deep.RegionHeld3
import Derived.Maps.AppendAt
namespace Go.Proofs.YtbhfblogjlpnlabDoor
open Go.RowKit

structure Sy where
  nm : ByteArray
  val : Int
  cls : Int
instance : Inhabited Sy := ⟨⟨ByteArray.empty, 0, 0⟩⟩
def Sy.cells (y : Sy) : List Value := [.string y.nm, .int .u32 y.val, .int .i64 y.cls]
/-- Symbols lie there, below n₀. -/
def SymsIn (n₀ : Nat) (Y : Nat → Sy) (w : World) (A : Option Addr) (m : Nat) : Prop :=
  ∀ j, j < m → ∃ B O, A = some ⟨B, O, none⟩ ∧ B < n₀ ∧ w.cell? ⟨B, O + j * 3, none⟩ = some (.string (Y j).nm) ∧ w.cell? ⟨B, O + j * 3 + 1, none⟩ = some (.int .u32 (Y j).val) ∧ w.cell? ⟨B, O + j * 3 + 2, none⟩ = some (.int .i64 (Y j).cls)
theorem SymsIn.below {n₀ n₁ : Nat} {Y : Nat → Sy} {w w' : World} {A : Option Addr} {m : Nat} (h : SymsIn n₀ Y w A m) (hb : Below n₀ w w') (hn : n₀ ≤ n₁) : SymsIn n₁ Y w' A m := by
  intro j hj
  obtain ⟨B, O, hA, hB, h0, h1, h2⟩ := h j hj
  exact ⟨B, O, hA, by omega, (hb.cell (p := ⟨B, O + j * 3, none⟩) hB).trans h0, (hb.cell (p := ⟨B, O + j * 3 + 1, none⟩) hB).trans h1, (hb.cell (p := ⟨B, O + j * 3 + 2, none⟩) hB).trans h2⟩

def symCells (l : List Sy) : List Value := l.flatMap Sy.cells
theorem symCells_len (l : List Sy) : (symCells l).length = l.length * 3 := by
  unfold symCells
  induction l with
  | nil => rfl
  | cons p ps ih => rw [List.flatMap_cons, List.length_append, ih]; simp [Sy.cells]; omega
theorem symCells_snoc (l : List Sy) (y : Sy) : symCells (l ++ [y]) = symCells l ++ y.cells := by simp [symCells]
theorem symCells_at (l : List Sy) (j i : Nat) (hj : j < l.length) (hi : i < 3) : (symCells l)[j * 3 + i]? = l[j].cells[i]? := by
  induction l generalizing j with
  | nil => simp at hj
  | cons p ps ih =>
    unfold symCells at *
    rw [List.flatMap_cons]
    cases j with
    | zero =>
      have : i < p.cells.length := by simpa [Sy.cells] using hi
      simp only [Nat.zero_mul, Nat.zero_add, List.getElem_cons_zero]
      rw [List.getElem?_append_left this]
    | succ j =>
      have h3 : p.cells.length = 3 := rfl
      rw [List.getElem?_append_right (by rw [h3]; omega), h3]
      have : (j + 1) * 3 + i - 3 = j * 3 + i := by omega
      rw [this, ih j (by simpa using hj)]
      simp

/-- A row of symbols of the call's own, as symbols. -/
theorem SymsIn.of_row {w : World} {b0 : Nat} {T : TypeId} {v : Value} {l : List Sy} (h : w.ownsRow b0 T 3 v l.length (symCells l)) : ∃ A c, v = .slice A l.length c ∧ SymsIn w.heap.size (fun j => l.getD j default) w A l.length := by
  rcases h.2 with ⟨rfl, hx⟩ | ⟨g, cap, cur, rfl, r⟩
  · refine ⟨none, 0, by rw [hx], fun j hj => absurd hj (by omega)⟩
  · refine ⟨_, _, rfl, fun j hj => ⟨g, 0, rfl, (h.lt g rfl).2, ?_⟩⟩
    have hc : ∀ i, i < 3 → w.cell? ⟨g, 0 + j * 3 + i, none⟩ = l[j].cells[i]? := by
      intro i hi
      rw [Nat.zero_add, h.cellAt (j * 3 + i) (by omega)]
      exact symCells_at l j i hj hi
    have e : l.getD j default = l[j] := by simp [hj]
    simp only [e]
    exact ⟨hc 0 (by omega), hc 1 (by omega), hc 2 (by omega)⟩

/-- The program's symbol for one of the document's. -/
def ourSy (y : Sy) : Sy := ⟨y.nm, y.val, if y.cls = 0 then 0 else 1⟩
def ourSyms (Y : Nat → Sy) (m : Nat) : List Sy := (List.range m).map fun j => ourSy (Y j)
theorem ourSyms_len (Y : Nat → Sy) (m : Nat) : (ourSyms Y m).length = m := by simp [ourSyms]
theorem ourSyms_succ (Y : Nat → Sy) (m : Nat) : ourSyms Y (m + 1) = ourSyms Y m ++ [ourSy (Y m)] := by simp [ourSyms, List.range_succ]

theorem Tryd.infoESym : (Tryd.prog.info? 131).map (fun i => (i.zero, i.size, i.bytes)) = some (some (.agg #[.string ByteArray.empty, .int .u32 0, .int .i64 0]), 3, 32) := by kernel_rfl
theorem cells_new3 (w : World) (cs : Array Value) (t : TypeId) (g : Nat) (hg : g = w.heap.size) : ∀ j u, cs.toList[j]? = some u → (w.alloc (.cells cs t)).cell? ((⟨g, 0, none⟩ : Addr).add j) = some u := by
  subst hg
  intro j u hu
  have hadd : (⟨w.heap.size, 0, none⟩ : Addr).add j = ⟨w.heap.size, j, none⟩ := by unfold Addr.add; split <;> simp_all
  rw [hadd, cell_of_row _ w.heap.size j cs t (0, 0) (heap_alloc_new w _)]
  simpa using hu

/-- append onto a row of the call's own, as one step of a region that draws. -/
theorem step_append_own_at {P : Program} {ops : Array Oper} {o : Oper} {a : Act} {w : World} {K : Act → World → Prop} {Q : Exit → Act → World → Prop} {E : Prop}
    (hg : o.guard = none) (s x : Operand) (t : TypeId) (hop : o.op = Op.call { callee := Callee.builtin Builtin.append, args := #[s, x], argTypes := #[t, t] })
    (base : Nat) (e : TypeId) (i : TypeInfo) (z : Value) (size bytes : Nat) (ht : P.underlying t = some (.slice e)) (hi : P.info? e = some i) (hz : i.zero = some z)
    (hsize : i.size = size) (hby : i.bytes = bytes) (hzs : z.cells.size = size) (hsz : 0 < size)
    (v : Value) (n : Nat) (xs : List Value) (hs : a.eval s = v) (hown : w.ownsRow base e size v n xs)
    (ad : Addr) (m c : Nat) (news : List Value) (hx : a.eval x = .slice (some ad) m c) (hl : news.length = m * size) (hnews : ∀ j u, news[j]? = some u → w.cell? (ad.add j) = some u) (h1 : ∀ u ∈ news, u.oneCell' = true)
    (h63 : n + m ≤ maxLen) (hbytes : (n + m) * bytes ≤ 140737488355328) (hbase : base ≤ w.heap.size)
    (hK : ∀ v' w', w'.ownsRow base e size v' (n + m) (xs ++ news) → w.grownBy w' v.ownBlock → (v' = .slice none 0 0 ↔ v = .slice none 0 0 ∧ m = 0) → (v'.ownBlock = v.ownBlock ∨ v'.ownBlock = some w.heap.size) → K (a.put o.dst v') w') :
    if Region.wanted o (yielded ops a.tmps) = true then Oper.wp P o a w K Q else E := by
  have hw : Region.wanted o (yielded ops a.tmps) = true := by simp [Region.wanted, hg]
  rw [if_pos hw]
  obtain ⟨v', w', hr, h2, h3, h4, h5⟩ := run_append_own_at (P := P) w base t o.type e i z size bytes ht hi hz hsize hby hzs hsz v n xs hown ad m c news hl hnews h1 h63 hbytes hbase
  unfold Oper.wp execOp
  simp only [hop, resolve, invoke, builtin, Sem.run_bind, Sem.run_pure, Result.andThen_ok, List.map_toArray, List.map_cons, List.map_nil, hs, hx, hr]
  exact hK v' w' h2 h3 h4 h5

theorem cell_grown {w w' : World} {a : Addr} {v : Value} {r : Option Nat} (h : w.cell? a = some v) (hg : w.grownBy w' r) (hr : r ≠ some a.block) : w'.cell? a = some v :=
  (World.cell?_of_block (hg.block a.block (World.block_lt_of_cell? _ _ h) (fun e => hr e.symm))).trans h

def SymsOut (w : World) (Y : Nat → Sy) (m : Nat) (e : Ending) (w' : World) : Prop :=
  ∃ v, e = .returned v ∧ w'.ownsRow w.heap.size 131 3 v m (symCells (ourSyms Y m)) ∧ Below w.heap.size w w'

set_option maxRecDepth 100000 in
set_option maxHeartbeats 2000000 in
theorem syms_any (Y : Nat → Sy) (A : Option Addr) (m cap : Nat) (hm : m ≤ 100) (w : World) (h : SymsIn w.heap.size Y w A m) :
    Calls Tryd.prog 37 #[.slice A m cap] w (SymsOut w Y m) := by
  obtain ⟨i0, hi0, hz0, hz1, hz2⟩ := info_parts Tryd.infoESym
  have H := Lib.hid h
  clear h
  go_enter Tryd.func37, Tryd.ntmps37
  go_wp2
  go_loopg [3, 4] m (fun g v i wr => ∃ k : Nat, k + g = m ∧ i = .int .i64 k ∧ wr.ownsRow w.heap.size 131 3 v k (symCells (ourSyms Y k)) ∧ Below w.heap.size w wr)
  case atStart => exact ⟨0, Nat.zero_add _, rfl, World.ownsRow_nil _ _ _ _, Below.refl _ _⟩
  case round =>
    obtain ⟨k, hk, rfl, hR, hb⟩ := hrel
    have hk' : k ≤ m := by omega
    have HK := Lib.hid hk
    have HR := Lib.hid hR
    have HB := Lib.hid hb
    have hsz := hb.size
    clear hk hR hb
    by_cases hlt : k < m
    · obtain ⟨B, O, hA, hB, c0, c1, c2⟩ := (H.out.below HB.out (Nat.le_refl _)) k hlt
      subst hA
      obtain ⟨A3, n3, cc3, e3⟩ : ∃ A3 n3 cc3, u3 = .slice A3 n3 cc3 := by
        rcases HR.out.2 with ⟨h, _⟩ | ⟨_, _, _, h, _⟩
        · exact ⟨_, _, _, h⟩
        · exact ⟨_, _, _, h⟩
      subst e3
      have d0 : Hid (∀ o, (wr.drew.alloc o).cell? ⟨B, O + k * 3, none⟩ = some (.string (Y k).nm)) := Lib.hid (fun o => (World.cell?_alloc_lt wr.drew o ⟨B, O + k * 3, none⟩ (show B < _ by simp; omega)).trans c0)
      have d1 : Hid (∀ o, (wr.drew.alloc o).cell? ⟨B, O + k * 3 + 1, none⟩ = some (.int .u32 (Y k).val)) := Lib.hid (fun o => (World.cell?_alloc_lt wr.drew o ⟨B, O + k * 3 + 1, none⟩ (show B < _ by simp; omega)).trans c1)
      have hne : Hid ((Value.slice A3 n3 cc3).ownBlock ≠ some B) := Lib.hid (fun e => by have := (HR.out.lt _ e).1; omega)
      by_cases hcls : (Y k).cls = 0
      · have hc2 : ((Y k).cls != 0) = false := by simp [hcls]
        have hs : Hid (symCells (ourSyms Y (k + 1)) = symCells (ourSyms Y k) ++ [.string (Y k).nm, .int .u32 (Y k).val, .int .i64 0]) := Lib.hid (by rw [ourSyms_succ, symCells_snoc]; simp [ourSy, Sy.cells, hcls])
        clear hcls
        go_upto_region 8 with fail
        go_region_held3 (fun W => W.cell? ⟨B, O + k * 3, none⟩ = some (.string (Y k).nm) ∧ W.cell? ⟨B, O + k * 3 + 1, none⟩ = some (.int .u32 (Y k).val))
          (first | exact ⟨c0, c1⟩ | exact ⟨cell_grown (d0.out _) hg3 hne.out, cell_grown (d1.out _) hg3 hne.out⟩ | go_keep)
          (first | (refine step_append_own_at rfl (.tmp 18) (.tmp 31) 78 rfl w.heap.size 131 i0 (.agg #[.string ByteArray.empty, .int .u32 0, .int .i64 0]) 3 32 Tryd.underlying78 hi0 hz0 hz1 hz2 rfl (by decide) _ k (symCells (ourSyms Y k)) (by simp [Act.eval]) (HR.out.drew.alloc _) ⟨wr.heap.size, 0, none⟩ 1 1 [.string (Y k).nm, .int .u32 (Y k).val, .int .i64 0] (by simp [Act.eval]) rfl (cells_new3 _ #[.string (Y k).nm, .int .u32 (Y k).val, .int .i64 0] _ _ (by simp)) (by intro u hu; simp at hu; rcases hu with rfl | rfl | rfl <;> rfl) (by unfold maxLen; omega) (by omega) (by simp; omega) ?_; intro v' w3 hown3 hg3 _ _))
        go_wp2
        go_roundg (gk - 1)
        case measure => have := HK.out; omega
        case rel => exact ⟨k + 1, by have := HK.out; omega, by go_num, by rw [hs.out]; exact hown3, ((HB.out.drew).alloc hsz _).grown hg3 (by simp; omega) (fun x hx => (HR.out.lt x hx).1)⟩
      · have hc2 : ((Y k).cls != 0) = true := by simp [hcls]
        have hs : Hid (symCells (ourSyms Y (k + 1)) = symCells (ourSyms Y k) ++ [.string (Y k).nm, .int .u32 (Y k).val, .int .i64 1]) := Lib.hid (by rw [ourSyms_succ, symCells_snoc]; simp [ourSy, Sy.cells, hcls])
        clear hcls
        go_upto_region 8 with fail
        go_region_held3 (fun W => W.cell? ⟨B, O + k * 3, none⟩ = some (.string (Y k).nm) ∧ W.cell? ⟨B, O + k * 3 + 1, none⟩ = some (.int .u32 (Y k).val))
          (first | exact ⟨c0, c1⟩ | exact ⟨cell_grown (d0.out _) hg3 hne.out, cell_grown (d1.out _) hg3 hne.out⟩ | go_keep)
          (first | (refine step_append_own_at rfl (.tmp 18) (.tmp 31) 78 rfl w.heap.size 131 i0 (.agg #[.string ByteArray.empty, .int .u32 0, .int .i64 0]) 3 32 Tryd.underlying78 hi0 hz0 hz1 hz2 rfl (by decide) _ k (symCells (ourSyms Y k)) (by simp [Act.eval]) (HR.out.drew.alloc _) ⟨wr.heap.size, 0, none⟩ 1 1 [.string (Y k).nm, .int .u32 (Y k).val, .int .i64 1] (by simp [Act.eval]) rfl (cells_new3 _ #[.string (Y k).nm, .int .u32 (Y k).val, .int .i64 1] _ _ (by simp)) (by intro u hu; simp at hu; rcases hu with rfl | rfl | rfl <;> rfl) (by unfold maxLen; omega) (by omega) (by simp; omega) ?_; intro v' w3 hown3 hg3 _ _))
        go_wp2
        go_roundg (gk - 1)
        case measure => have := HK.out; omega
        case rel => exact ⟨k + 1, by have := HK.out; omega, by go_num, by rw [hs.out]; exact hown3, ((HB.out.drew).alloc hsz _).grown hg3 (by simp; omega) (fun x hx => (HR.out.lt x hx).1)⟩
    · obtain rfl : k = m := by omega
      go_wp2
      go_ret
      exact ⟨_, rfl, HR.out, HB.out⟩
end Go.Proofs.YtbhfblogjlpnlabDoor
