/-
  The contracts of the reference's Digits at 0, Symbol, leaf, two and at. Conditions: a Local's scope is 0, its text is no longer than 100000 bytes; the tokens lie in the memory.
-/
import Derived.Test.YtbhfblogjlpnlaaDoorExLeaf
import Derived.Test.YtbhfblogjlpnlaaDoorExErr
import Derived.Test.YtbhfblogjlpnlaaDoorExMach
import Derived.Deep.LoopGhost
import Derived.Deep.RegionLaw
namespace Go.Proofs.YtbhfblogjlpnlaaDoor
open Go.RowKit

set_option maxRecDepth 100000 in
set_option maxHeartbeats 4000000 in
theorem digits0_is (w : World) : Calls Tryd.prog 67 #[.int .i64 0] w fun e w' => e = .returned (.string ⟨#[48]⟩) ∧ w' = w := by
  go_enter Tryd.func67, Tryd.ntmps67
  go_wp2_with fail
  refine wp_loop_rounds 1 ?_
  rw [rounds_succ]
  go_wp2_with fail
  go_ret
  exact ⟨rfl, rfl⟩

set_option maxRecDepth 100000 in
set_option maxHeartbeats 4000000 in
theorem rsymbol_name (t : Tk6) (w : World) (hk : t.kind = 1) : Calls Tryd.prog 46 #[t.val] w fun e w' => e = .returned (.string t.text) ∧ Below w.heap.size w w' := by
  have HBA : Hid (∀ o, Below w.heap.size w (w.alloc o)) := Lib.hid (fun o => (Below.refl _ _).alloc (Nat.le_refl _) o)
  have k1 : (t.kind == 1) = true := by rw [hk]; rfl
  clear hk
  go_enter Tryd.func46, Tryd.ntmps46
  go_wp2_with fail
  go_ret
  exact ⟨rfl, HBA.out _⟩

set_option maxRecDepth 100000 in
set_option maxHeartbeats 4000000 in
theorem rsymbol_local (t : Tk6) (w : World) (hk : t.kind = 2) (h0 : t.spare = 0) (hs : t.text.size ≤ 100000) : Calls Tryd.prog 46 #[t.val] w fun e w' => e = .returned (.string (t.text ++ ⟨#[64, 48]⟩)) ∧ Below w.heap.size w w' := by
  have HBA : Hid (∀ o, Below w.heap.size w (w.alloc o)) := Lib.hid (fun o => (Below.refl _ _).alloc (Nat.le_refl _) o)
  obtain ⟨kind, line, col, text, num, spare⟩ := t
  simp only at hk h0 hs
  subst hk h0
  have hadd1 : ¬ 9223372036854775807 < text.size + 1 := by omega
  have hadd2 : ¬ 9223372036854775807 < text.size + 1 + 1 := by omega
  have kt := Blk.new w 39 #[.int .i64 2, .int .i64 line, .int .i64 col, .string text, .int .u32 num, .int .i64 0]
  go_enter Tryd.func46, Tryd.ntmps46
  go_wp2_with fail
  have HB := Lib.hid (HBA.out (.cells #[.int .i64 2, .int .i64 line, .int .i64 col, .string text, .int .u32 num, .int .i64 0] 39))
  clear HBA
  generalize (w.alloc (.cells #[.int .i64 2, .int .i64 line, .int .i64 col, .string text, .int .u32 num, .int .i64 0] 39)) = wA at kt HB ⊢
  generalize w.heap.size = g at kt ⊢
  have s3 : wA.cell? ⟨g, 3, none⟩ = some (.string text) := kt.cell 3
  have s5 : wA.cell? ⟨g, 5, none⟩ = some (.int .i64 0) := kt.cell 5
  have KT := Lib.hid kt
  have HI := Lib.hid (fun W (hW : Below wA.heap.size wA W) => (digits0_is W).mono (fun e w' (h : e = .returned (.string ⟨#[48]⟩) ∧ w' = W) => (⟨h.1, h.2 ▸ hW⟩ : e = .returned (.string ⟨#[48]⟩) ∧ Below wA.heap.size wA w')))
  clear kt
  go_region_held3 (fun W => W.cell? ⟨g, 3, none⟩ = some (.string text) ∧ W.cell? ⟨g, 5, none⟩ = some (.int .i64 0) ∧ Below wA.heap.size wA W)
    (first | exact ⟨s3, s5, Below.refl _ _⟩ | exact ⟨s3, s5, (Below.refl _ _).drew⟩ | (go_split_ands; exact ⟨by assumption, by assumption, by assumption⟩) | go_keep)
    (first | (go_at_call 67; go_split_ands; refine (HI.out _ (by assumption)).mono ?_; rintro e w3 ⟨rfl, hb3⟩; have r3 : w3.cell? ⟨g, 3, none⟩ = some (.string text) := (KT.out.below hb3 KT.out.lt).cell 3; have r5 : w3.cell? ⟨g, 5, none⟩ = some (.int .i64 0) := (KT.out.below hb3 KT.out.lt).cell 5))
  go_wp2_with fail
  go_ret
  exact ⟨by rw [ByteArray.append_assoc]; rfl, HB.out.trans (hb3.mono HB.out.size)⟩

@[reducible] def Nd.val (n : Nd) : Value := .agg #[.int .i64 n.kind, .int .i64 n.line, .int .i64 n.col, .int .u32 n.num, .string n.name]
/-- The node that leaf answers. -/
def Tk6.leafN (t : Tk6) : Nd := match t.leaf with
  | some n => n
  | none => t.node 0

theorem blk3 (w : World) (a : Obj) (t1 t2 : TypeId) (c1 c2 : Array Value) : Blk (((w.alloc a).alloc (.cells c1 t1)).alloc (.cells c2 t2)) (w.heap.size + 1) t1 c1 ∧ Blk (((w.alloc a).alloc (.cells c1 t1)).alloc (.cells c2 t2)) (w.heap.size + 1 + 1) t2 c2 := by
  have h1 := (Blk.new (w.alloc a) t1 c1).alloc (.cells c2 t2)
  have h2 := Blk.new ((w.alloc a).alloc (.cells c1 t1)) t2 c2
  rw [show (w.alloc a).heap.size = w.heap.size + 1 by simp] at h1
  rw [show ((w.alloc a).alloc (.cells c1 t1)).heap.size = w.heap.size + 1 + 1 by simp] at h2
  exact ⟨h1, h2⟩
theorem below3 (w : World) (a b c : Obj) : Below w.heap.size w (((w.alloc a).alloc b).alloc c) := (((Below.refl _ _).alloc (Nat.le_refl _) a).alloc (by simp) b).alloc (by simp; omega) c

set_option maxRecDepth 100000 in
set_option maxHeartbeats 4000000 in
theorem rleaf_num (t : Tk6) (hk : t.kind = 5) (w : World) : Calls Tryd.prog 30 #[t.val] w fun e w' => e = .returned (.tuple #[.agg #[.int .i64 1, .int .i64 t.line, .int .i64 t.col, .int .u32 t.num, .string ⟨#[]⟩], .bool true]) ∧ Below w.heap.size w w' := by
  have k5 : (t.kind == 5) = true := by rw [hk]; rfl
  clear hk
  have HBA := Lib.hid (below3 w)
  go_enter Tryd.func30, Tryd.ntmps30
  go_wp2_with fail
  exact bodyPost_ret (v := .tuple #[.agg #[.int .i64 1, .int .i64 t.line, .int .i64 t.col, .int .u32 t.num, .string ⟨#[]⟩], .bool true]) (by simp [results, Tryd.results30, go_sem]; done) rfl ⟨rfl, HBA.out _ _ _⟩

set_option maxRecDepth 100000 in
set_option maxHeartbeats 4000000 in
theorem rleaf_dot (t : Tk6) (hk : t.kind = 1) (hm : isT t.text [46] = true) (w : World) : Calls Tryd.prog 30 #[t.val] w fun e w' => e = .returned (.tuple #[.agg #[.int .i64 3, .int .i64 t.line, .int .i64 t.col, .int .u32 0, .string ⟨#[]⟩], .bool true]) ∧ Below w.heap.size w w' := by
  have k5 : (t.kind == 5) = false := by rw [hk]; rfl
  have k1 : (t.kind == 1) = true := by rw [hk]; rfl
  have m1 : (t.text.toList == [46]) = true := hm
  clear hk hm
  have HBA := Lib.hid (below3 w)
  go_enter Tryd.func30, Tryd.ntmps30
  go_wp2_with fail
  exact bodyPost_ret (v := .tuple #[.agg #[.int .i64 3, .int .i64 t.line, .int .i64 t.col, .int .u32 0, .string ⟨#[]⟩], .bool true]) (by simp [results, Tryd.results30, go_sem]; done) rfl ⟨rfl, HBA.out _ _ _⟩

set_option maxRecDepth 100000 in
set_option maxHeartbeats 4000000 in
theorem rleaf_none (t : Tk6) (h5 : t.kind ≠ 5) (h1 : t.kind ≠ 1) (h2 : t.kind ≠ 2) (w : World) : Calls Tryd.prog 30 #[t.val] w fun e w' => e = .returned (.tuple #[.agg #[.int .i64 0, .int .i64 t.line, .int .i64 t.col, .int .u32 0, .string ⟨#[]⟩], .bool false]) ∧ Below w.heap.size w w' := by
  have k5 : (t.kind == 5) = false := beq_eq_false_iff_ne.2 h5
  have k1 : (t.kind == 1) = false := beq_eq_false_iff_ne.2 h1
  have k2 : (t.kind == 2) = false := beq_eq_false_iff_ne.2 h2
  clear h5 h1 h2
  have HBA := Lib.hid (below3 w)
  go_enter Tryd.func30, Tryd.ntmps30
  go_wp2_with fail
  exact bodyPost_ret (v := .tuple #[.agg #[.int .i64 0, .int .i64 t.line, .int .i64 t.col, .int .u32 0, .string ⟨#[]⟩], .bool false]) (by simp [results, Tryd.results30, go_sem]; done) rfl ⟨rfl, HBA.out _ _ _⟩

set_option maxRecDepth 100000 in
set_option maxHeartbeats 4000000 in
theorem rleaf_sym1 (t : Tk6) (hk : t.kind = 1) (hm : isT t.text [46] = false) (nm : ByteArray) (HS : Hid (∀ W, Calls Tryd.prog 46 #[t.val] W fun e w' => e = .returned (.string nm) ∧ Below W.heap.size W w')) (w : World) : Calls Tryd.prog 30 #[t.val] w fun e w' => e = .returned (.tuple #[.agg #[.int .i64 2, .int .i64 t.line, .int .i64 t.col, .int .u32 0, .string nm], .bool true]) ∧ Below w.heap.size w w' := by
  have k5 : (t.kind == 5) = false := by rw [hk]; rfl
  have k1 : (t.kind == 1) = true := by rw [hk]; rfl
  have m1 : (t.text.toList == [46]) = false := hm
  clear hk hm
  have HBA := Lib.hid (below3 w)
  go_enter Tryd.func30, Tryd.ntmps30
  go_wp2_with fail
  obtain ⟨b1, b2⟩ := blk3 w (.cells #[.int .i64 t.kind, .int .i64 t.line, .int .i64 t.col, .string t.text, .int .u32 t.num, .int .i64 t.spare] 39) 54 54 #[.int .i64 0, .int .i64 0, .int .i64 0, .int .u32 0, .string ⟨#[]⟩] #[.int .i64 2, .int .i64 t.line, .int .i64 t.col, .int .u32 0, .string ⟨#[]⟩]
  refine (HS.out _).mono ?_
  rintro e w2 ⟨rfl, hb2⟩
  have k1 := b1.below hb2 b1.lt
  have k2 := b2.below hb2 b2.lt
  have HB2 := Lib.hid ((HBA.out _ _ _).trans (hb2.mono (HBA.out _ _ _).size))
  have x0 : w2.cell? ⟨w.heap.size + 1, 0, none⟩ = some (.int .i64 0) := k1.cell 0
  have x1 : w2.cell? ⟨w.heap.size + 1, 1, none⟩ = some (.int .i64 0) := k1.cell 1
  have x2 : w2.cell? ⟨w.heap.size + 1, 2, none⟩ = some (.int .i64 0) := k1.cell 2
  have x3 : w2.cell? ⟨w.heap.size + 1, 3, none⟩ = some (.int .u32 0) := k1.cell 3
  have x4 : w2.cell? ⟨w.heap.size + 1, 4, none⟩ = some (.string ⟨#[]⟩) := k1.cell 4
  have y0 : w2.cell? ⟨w.heap.size + 1 + 1, 0, none⟩ = some (.int .i64 2) := k2.cell 0
  have y1 : w2.cell? ⟨w.heap.size + 1 + 1, 1, none⟩ = some (.int .i64 t.line) := k2.cell 1
  have y2 : w2.cell? ⟨w.heap.size + 1 + 1, 2, none⟩ = some (.int .i64 t.col) := k2.cell 2
  have y3 : w2.cell? ⟨w.heap.size + 1 + 1, 3, none⟩ = some (.int .u32 0) := k2.cell 3
  have y4 : w2.cell? ⟨w.heap.size + 1 + 1, 4, none⟩ = some (.string ⟨#[]⟩) := k2.cell 4
  have z0 := k1.frozen 0
  have z1 := k1.frozen 1
  have z2 := k1.frozen 2
  have z3 := k1.frozen 3
  have z4 := k1.frozen 4
  have u4 := k2.frozen 4
  clear k1 k2 b1 b2 hb2
  go_wp2_with fail
  exact bodyPost_ret (v := .tuple #[.agg #[.int .i64 2, .int .i64 t.line, .int .i64 t.col, .int .u32 0, .string nm], .bool true]) (by simp [results, Tryd.results30, go_sem, x0, x1, x2, x3, x4]; done) rfl ⟨rfl, (((((HB2.out.setCell (by simp; omega) _).setCell (by simp) _).setCell (by simp) _).setCell (by simp) _).setCell (by simp) _).setCell (by simp) _⟩

set_option maxRecDepth 100000 in
set_option maxHeartbeats 4000000 in
theorem rleaf_sym2 (t : Tk6) (hk : t.kind = 2) (nm : ByteArray) (HS : Hid (∀ W, Calls Tryd.prog 46 #[t.val] W fun e w' => e = .returned (.string nm) ∧ Below W.heap.size W w')) (w : World) : Calls Tryd.prog 30 #[t.val] w fun e w' => e = .returned (.tuple #[.agg #[.int .i64 2, .int .i64 t.line, .int .i64 t.col, .int .u32 0, .string nm], .bool true]) ∧ Below w.heap.size w w' := by
  have k5 : (t.kind == 5) = false := by rw [hk]; rfl
  have k1 : (t.kind == 1) = false := by rw [hk]; rfl
  have k2 : (t.kind == 2) = true := by rw [hk]; rfl
  clear hk
  have HBA := Lib.hid (below3 w)
  go_enter Tryd.func30, Tryd.ntmps30
  go_wp2_with fail
  obtain ⟨b1, b2⟩ := blk3 w (.cells #[.int .i64 t.kind, .int .i64 t.line, .int .i64 t.col, .string t.text, .int .u32 t.num, .int .i64 t.spare] 39) 54 54 #[.int .i64 0, .int .i64 0, .int .i64 0, .int .u32 0, .string ⟨#[]⟩] #[.int .i64 2, .int .i64 t.line, .int .i64 t.col, .int .u32 0, .string ⟨#[]⟩]
  refine (HS.out _).mono ?_
  rintro e w2 ⟨rfl, hb2⟩
  have k1 := b1.below hb2 b1.lt
  have k2 := b2.below hb2 b2.lt
  have HB2 := Lib.hid ((HBA.out _ _ _).trans (hb2.mono (HBA.out _ _ _).size))
  have x0 : w2.cell? ⟨w.heap.size + 1, 0, none⟩ = some (.int .i64 0) := k1.cell 0
  have x1 : w2.cell? ⟨w.heap.size + 1, 1, none⟩ = some (.int .i64 0) := k1.cell 1
  have x2 : w2.cell? ⟨w.heap.size + 1, 2, none⟩ = some (.int .i64 0) := k1.cell 2
  have x3 : w2.cell? ⟨w.heap.size + 1, 3, none⟩ = some (.int .u32 0) := k1.cell 3
  have x4 : w2.cell? ⟨w.heap.size + 1, 4, none⟩ = some (.string ⟨#[]⟩) := k1.cell 4
  have y0 : w2.cell? ⟨w.heap.size + 1 + 1, 0, none⟩ = some (.int .i64 2) := k2.cell 0
  have y1 : w2.cell? ⟨w.heap.size + 1 + 1, 1, none⟩ = some (.int .i64 t.line) := k2.cell 1
  have y2 : w2.cell? ⟨w.heap.size + 1 + 1, 2, none⟩ = some (.int .i64 t.col) := k2.cell 2
  have y3 : w2.cell? ⟨w.heap.size + 1 + 1, 3, none⟩ = some (.int .u32 0) := k2.cell 3
  have y4 : w2.cell? ⟨w.heap.size + 1 + 1, 4, none⟩ = some (.string ⟨#[]⟩) := k2.cell 4
  have z0 := k1.frozen 0
  have z1 := k1.frozen 1
  have z2 := k1.frozen 2
  have z3 := k1.frozen 3
  have z4 := k1.frozen 4
  have u4 := k2.frozen 4
  clear k1 k2 b1 b2 hb2
  go_wp2_with fail
  exact bodyPost_ret (v := .tuple #[.agg #[.int .i64 2, .int .i64 t.line, .int .i64 t.col, .int .u32 0, .string nm], .bool true]) (by simp [results, Tryd.results30, go_sem, x0, x1, x2, x3, x4]; done) rfl ⟨rfl, (((((HB2.out.setCell (by simp; omega) _).setCell (by simp) _).setCell (by simp) _).setCell (by simp) _).setCell (by simp) _).setCell (by simp) _⟩

/-- The leaf's contract. -/
theorem rleaf_is (t : Tk6) (w : World) (h0 : t.spare = 0) (hs : t.text.size ≤ 100000) : Calls Tryd.prog 30 #[t.val] w fun e w' => e = .returned (.tuple #[t.leafN.val, .bool t.leaf.isSome]) ∧ Below w.heap.size w w' := by
  unfold Tk6.leafN Tk6.leaf
  by_cases h5 : t.kind = 5
  · rw [if_pos h5]
    exact rleaf_num t h5 w
  · rw [if_neg h5]
    by_cases h1 : t.kind = 1
    · rw [if_pos h1]
      cases hm : isT t.text [46] with
      | true => exact rleaf_dot t h1 hm w
      | false => exact rleaf_sym1 t h1 hm t.text (Lib.hid (fun W => rsymbol_name t W h1)) w
    · rw [if_neg h1]
      by_cases h2 : t.kind = 2
      · rw [if_pos h2]
        exact rleaf_sym2 t h2 _ (Lib.hid (fun W => rsymbol_local t W h2 h0 hs)) w
      · rw [if_neg h2]
        exact rleaf_none t h5 h1 h2 w
end Go.Proofs.YtbhfblogjlpnlaaDoor
