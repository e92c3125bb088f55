/-
  What a push and a pop do to the reference's two rows. No condition but what the laws on append leave.
-/
import Derived.Test.YtccomiigdpfbpaaDoorRef
import Derived.Deep.AppendLies
namespace Go.Proofs.YtccomiigdpfbpaaDoor
open Go.RowKit

theorem ownBlock_lt {w : World} {base e size n : Nat} {v : Value} {xs : List Value} (h : w.ownsRow base e size v n xs) : ∀ g, v.ownBlock = some g → g < w.heap.size := fun g hg => (h.lt g hg).2
theorem ownBlock_some {w : World} {base e size n : Nat} {v : Value} {xs : List Value} (h : w.ownsRow base e size v n xs) (hn : 0 < n) : ∃ g, v.ownBlock = some g := by
  obtain ⟨g, c, rfl, _⟩ := World.ownsRow.form h hn
  exact ⟨g, rfl⟩

/-- Behind the two appends of a push. -/
theorem Rows2.push {w w2 w3 : World} {base : Nat} {v8 v9 v8' v9' : Value} {st : List (Int × Int)} {x y : Int} {o1 o2 : Obj} (h : Rows2 w base v8 v9 st) (hne : st ≠ [])
    (h8 : w2.ownsRow base 3 1 v8' (st.length + 1) (k1 st ++ [.int .i64 x])) (hg8 : (w.alloc o1).grownBy w2 v8.ownBlock) (hw8 : v8'.ownBlock = v8.ownBlock ∨ v8'.ownBlock = some (w.alloc o1).heap.size)
    (h9 : w3.ownsRow base 3 1 v9' (st.length + 1) (k2 st ++ [.int .i64 y])) (hg9 : (w2.alloc o2).grownBy w3 v9.ownBlock) (hw9 : v9'.ownBlock = v9.ownBlock ∨ v9'.ownBlock = some (w2.alloc o2).heap.size) :
    Rows2 w3 base v8' v9' (st ++ [(x, y)]) := by
  have hpos : 0 < st.length := List.length_pos_iff.2 hne
  obtain ⟨g8, e8⟩ := ownBlock_some h.own8 hpos
  obtain ⟨g9, e9⟩ := ownBlock_some h.own9 hpos
  have l8 := ownBlock_lt h.own8 g8 e8
  have l9 := ownBlock_lt h.own9 g9 e9
  have hn89 : g8 ≠ g9 := by intro e; apply h.ne; rw [e8, e9, e]
  have hs1 := hg8.size
  simp at hs1
  have hn' : v8'.ownBlock ≠ v9.ownBlock := by
    rcases hw8 with e | e
    · rw [e]; exact h.ne
    · rw [e, e9]; simp; omega
  have hv8lt : ∀ g, v8'.ownBlock = some g → g < w2.heap.size := ownBlock_lt h8
  refine ⟨?_, ?_, ?_⟩
  · rw [show (st ++ [(x, y)]).length = st.length + 1 by simp, show k1 (st ++ [(x, y)]) = k1 st ++ [.int .i64 x] by simp [k1]]
    exact (h8.alloc o2).kept hg9 (.inr hn')
  · rw [show (st ++ [(x, y)]).length = st.length + 1 by simp, show k2 (st ++ [(x, y)]) = k2 st ++ [.int .i64 y] by simp [k2]]
    exact h9
  · rcases hw9 with e | e
    · rw [e]; exact hn'
    · rw [e]
      intro e'
      have := hv8lt _ e'
      simp at this
      omega

/-- Behind the two copies of a pop. -/
theorem Rows2.pop {w2 w3 : World} {base : Nat} {v8' v9' : Value} {st : List (Int × Int)} (hne : st ≠ [])
    (h8 : w2.ownsRow base 3 1 v8' st.length (k1 st)) (h9 : w3.ownsRow base 3 1 v9' st.length (k2 st)) (hg9 : (w2.alloc (.cells #[] 3)).grownBy w3 (some w2.heap.size)) (hw9 : v9'.ownBlock = some w2.heap.size ∨ v9'.ownBlock = some (w2.alloc (.cells #[] 3)).heap.size) :
    Rows2 w3 base v8' v9' st := by
  have hpos : 0 < st.length := List.length_pos_iff.2 hne
  obtain ⟨g8, e8⟩ := ownBlock_some h8 hpos
  have l8 := ownBlock_lt h8 g8 e8
  refine ⟨(h8.alloc _).kept hg9 (.inr ?_), h9, ?_⟩
  · rw [e8]; simp; omega
  · rw [e8]
    rcases hw9 with e | e
    · rw [e]; simp; omega
    · rw [e]; simp; omega

/-- The answer of the reference's End. -/
def RefOut (w0 : World) (r : Res) (e : Ending) (w' : World) : Prop :=
  match r with
  | .ok k o => e = .returned (.tuple #[.int .i64 k, .int .i64 o, .agg #[.int .i64 0, .int .i64 0, .int .i64 0]]) ∧ Below w0.heap.size w0 w'
  | .bad L C => e = .returned (.tuple #[.int .i64 0, .int .i64 0, .agg #[.int .i64 L, .int .i64 C, .int .i64 15]]) ∧ Below w0.heap.size w0 w'

set_option maxRecDepth 100000 in
set_option maxHeartbeats 1000000 in
theorem ref_out (F : Lns) (A : Option Addr) (n cap : Nat) (i : Int) (w : World) (hi : i < 0 ∨ (n : Int) ≤ i) :
    Calls Tryd.prog 10 #[.slice A n cap, .int .i64 i] w (RefOut w (endSpec F n i)) := by
  have hs : endSpec F n i = .bad 0 0 := by unfold endSpec; rw [if_pos hi]
  rw [hs]
  clear hs
  rcases (show i < 0 ∨ (¬ i < 0 ∧ (n : Int) ≤ i) by omega) with h | ⟨h, h'⟩
  all_goals
    clear hi
    go_enter Tryd.func10, Tryd.ntmps10
    go_wp2
    exact bodyPost_ret (v := .tuple #[.int .i64 0, .int .i64 0, .agg #[.int .i64 0, .int .i64 0, .int .i64 15]]) (by simp [results, Tryd.results10, go_sem]) rfl ⟨rfl, (Below.refl _ _).alloc (Nat.le_refl _) _⟩

set_option maxRecDepth 100000 in
set_option maxHeartbeats 2000000 in
theorem ref_not (F : Lns) (B O n cap i : Nat) (w : World) (hF : F.In w B O n) (hi : i < n) (hk : ¬ (F.kind i = 1 ∨ F.kind i = 3 ∨ F.kind i = 5)) :
    Calls Tryd.prog 10 #[.slice (some ⟨B, O, none⟩) n cap, .int .i64 i] w (RefOut w (.bad (F.line i) (F.col i))) := by
  have hb0 : Below w.heap.size w (w.alloc (.cells #[.int .i64 0, .int .i64 0, .int .i64 0] 30)) := (Below.refl _ _).alloc (Nat.le_refl _) _
  have hl := hF.below hb0 i hi
  have hc := hl.cell
  have hkl := refKindLine hl
  have hAT : ∀ w1, Below (w.alloc (.cells #[.int .i64 0, .int .i64 0, .int .i64 0] 30)).heap.size (w.alloc (.cells #[.int .i64 0, .int .i64 0, .int .i64 0] 30)) w1 → F.At w1 B O i := fun w1 h => (hF.below (hb0.trans (h.mono (by simp)))) i hi
  have HAT := Lib.hid hAT
  have HB0 := Lib.hid hb0
  have k1 : ((F.kind i : Int) != 1) = true := by rw [bne_iff_ne]; omega
  have k3 : ((F.kind i : Int) != 3) = true := by rw [bne_iff_ne]; omega
  have k5 : ((F.kind i : Int) != 5) = true := by rw [bne_iff_ne]; omega
  have i0 : ¬ (i : Int) < 0 := by omega
  have i1 : ¬ (n : Int) ≤ i := by omega
  clear hF hk hAT hb0 hl
  go_enter Tryd.func10, Tryd.ntmps10
  go_wp2_with fail
  refine hkl.mono ?_
  rintro e w1 ⟨rfl, hb1⟩
  have h1 := HAT.out w1 hb1
  have hc1 := h1.cell
  have he := refErrLine 15 h1
  have HB1 := Lib.hid hb1
  clear hkl hc hb1 h1
  go_wp2_with fail
  refine he.mono ?_
  rintro e w2 ⟨rfl, hb2⟩
  have hb2' := HB1.out.trans (hb2.mono HB1.out.size)
  have hf := hb2'.cell (p := ⟨w.heap.size, 0, none⟩) (by simp)
  have hf1 := hb2'.cell (p := ⟨w.heap.size, 1, none⟩) (by simp)
  have hf2 := hb2'.cell (p := ⟨w.heap.size, 2, none⟩) (by simp)
  have hz := hb2'.frozen (p := ⟨w.heap.size, 0, none⟩) (by simp)
  have hz1' := hb2'.frozen (p := ⟨w.heap.size, 1, none⟩) (by simp)
  have hz2' := hb2'.frozen (p := ⟨w.heap.size, 2, none⟩) (by simp)
  simp at hf hf1 hf2 hz hz1' hz2'
  have HB2 : Hid (Below w.heap.size w w2) := HB0.out.trans (hb2'.mono (by simp))
  clear hb2 hb2' he hc1
  go_wp2
  exact bodyPost_ret (v := .tuple #[.int .i64 0, .int .i64 0, .agg #[.int .i64 (F.line i), .int .i64 (F.col i), .int .i64 15]]) (by simp [results, Tryd.results10, go_sem, hf, hf1, hf2]) rfl ⟨rfl, ((HB2.out.setCell (by simp) _).setCell (by simp) _).setCell (by simp) _⟩
end Go.Proofs.YtccomiigdpfbpaaDoor
