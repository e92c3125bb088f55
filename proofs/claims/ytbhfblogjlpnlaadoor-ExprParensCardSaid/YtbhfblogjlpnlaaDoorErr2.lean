/-
  The contract of the law's own Fault at an *api.Fault around an api.Code: its line, its column, and the code. Conditions: the handle of the type error; the block of the fault is there; the code is one of 1 to 16.
-/
import Derived.Test.YtbhfblogjlpnlaaDoorErr
namespace Go.Proofs.YtbhfblogjlpnlaaDoor
open Go.RowKit

theorem asHit_below (w : World) (e t : Addr) {B : Nat} (hB : B ≤ t.block) (hs : B ≤ w.heap.size) : Below B w (asHitWorld w e t) := by
  unfold asHitWorld
  exact (((((Below.refl _ _).alloc hs _).alloc (by simp; omega) _).alloc (by simp; omega) _).alloc (by simp; omega) _).setCell hB _

theorem asHit_cell (w : World) (e t : Addr) (v : Value) (ht : w.cell? t = some v) : (asHitWorld w e t).cell? t = some (.pointer (some e)) := by
  have htl : t.block < w.heap.size := World.block_lt_of_cell? w t ht
  unfold asHitWorld
  refine World.cell?_setCell_same _ _ _ (u := v) ?_
  rw [World.cell?_alloc_lt _ _ t (by simp; omega), World.cell?_alloc_lt _ _ t (by simp; omega), World.cell?_alloc_lt _ _ t (by simp; omega), World.cell?_alloc_lt _ _ t htl, ht]
theorem asHit_far (w : World) (e t : Addr) {g : Nat} {ty : TypeId} {cs : Array Value} (h : Blk w g ty cs) (hg : g ≠ t.block) : Blk (asHitWorld w e t) g ty cs := by
  unfold asHitWorld
  exact ((((h.alloc _).alloc _).alloc _).alloc _).far hg _

set_option maxRecDepth 100000 in
set_option maxHeartbeats 1000000 in
theorem fault_err (b : Nat) (L C c : Int) (w : World) (hg : Handle w) (h1 : 1 ≤ c) (h16 : c ≤ 16)
    (hb : Blk w b 68 #[.int .i64 L, .int .i64 C, .iface 56 (.int .i64 c)]) :
    Calls Tryd.prog 15 #[.iface 63 (.pointer (some ⟨b, 0, none⟩))] w fun e w' => e = .returned (.agg #[.int .i64 L, .int .i64 C, .int .i64 c]) ∧ Below w.heap.size w w' := by
  have hlt := hb.lt
  have hg1 : Handle ((w.alloc (.cells #[.int .i64 0, .int .i64 0, .int .i64 0] 30)).alloc (.cells #[.pointer none] 63)) := (hg.alloc _).alloc _
  have htA : ((w.alloc (.cells #[.int .i64 0, .int .i64 0, .int .i64 0] 30)).alloc (.cells #[.pointer none] 63)).cell? ⟨w.heap.size + 1, 0, none⟩ = some (.pointer none) := by simp
  have hfA : ((w.alloc (.cells #[.int .i64 0, .int .i64 0, .int .i64 0] 30)).alloc (.cells #[.pointer none] 63)).frozen? ⟨w.heap.size + 1, 0, none⟩ = false := by simp
  have hbel0 : Below w.heap.size w (asHitWorld ((w.alloc (.cells #[.int .i64 0, .int .i64 0, .int .i64 0] 30)).alloc (.cells #[.pointer none] 63)) ⟨b, 0, none⟩ ⟨w.heap.size + 1, 0, none⟩) :=
    (((Below.refl _ _).alloc (Nat.le_refl _) _).alloc (by simp) _).trans (asHit_below _ _ _ (by simp) (by simp; omega))
  have hcell0 := asHit_cell _ ⟨b, 0, none⟩ _ _ htA
  have hres0 : Blk (asHitWorld ((w.alloc (.cells #[.int .i64 0, .int .i64 0, .int .i64 0] 30)).alloc (.cells #[.pointer none] 63)) ⟨b, 0, none⟩ ⟨w.heap.size + 1, 0, none⟩) w.heap.size 30 #[.int .i64 0, .int .i64 0, .int .i64 0] :=
    asHit_far _ _ _ ((Blk.new _ _ _).alloc _) (by simp)
  have hflt0 := asHit_far _ ⟨b, 0, none⟩ ⟨w.heap.size + 1, 0, none⟩ ((hb.alloc (.cells #[.int .i64 0, .int .i64 0, .int .i64 0] 30)).alloc (.cells #[.pointer none] 63)) (by simp; omega)
  generalize hW : asHitWorld ((w.alloc (.cells #[.int .i64 0, .int .i64 0, .int .i64 0] 30)).alloc (.cells #[.pointer none] 63)) ⟨b, 0, none⟩ ⟨w.heap.size + 1, 0, none⟩ = W at hbel0 hcell0 hres0 hflt0
  have HW := Lib.hid hW
  clear hW
  have HB := Lib.hid hbel0
  clear hbel0
  have a0 := hflt0.cell 0
  have a1 := hflt0.cell 1
  have a2 := hflt0.cell 2
  have r0 := hres0.cell 0
  have r1 := hres0.cell 1
  have r2 := hres0.cell 2
  have z0 := hres0.frozen 0
  have z1 := hres0.frozen 1
  have z2 := hres0.frozen 2
  simp at a0 a1 a2 r0 r1 r2
  have his := fun k => is_any b c k W a2
  go_enter Tryd.func15, Tryd.ntmps15
  go_wp2_with (go_at_call 26; refine (as_hit _ _ (.pointer none) _ hg1 htA hfA).mono ?_; rintro e w' ⟨rfl, rfl⟩; rw [HW.out])
  go_loop [4] (fun i => ∃ k : Nat, 1 ≤ k ∧ (k : Int) ≤ c ∧ i = .int .i64 k) (fun i => 17 - (intOf i).toNat)
  case atStart => exact ⟨1, by omega, by omega, rfl⟩
  case round =>
    obtain ⟨k, hk1, hk2, rfl⟩ := hrel
    by_cases hck : (k : Int) = c
    · have hb1 : (c == (k : Int)) = true := by simp [hck]
      have hH := Lib.hid hck
      clear hck
      go_wp2_with (go_at_call 27; refine (his _).mono ?_; rintro e w' ⟨rfl, rfl⟩)
      go_region
      all_goals (try go_wp2)
      all_goals
        rw [hH.out]
        exact bodyPost_ret (v := .agg #[.int .i64 L, .int .i64 C, .int .i64 c]) (by simp [results, Tryd.results15, go_sem, r0, r1, r2]) rfl ⟨rfl, (((HB.out.setCell (by simp) _).setCell (by simp) _).setCell (by simp) _).drew⟩
    · have hb1 : (c == (k : Int)) = false := by simp; omega
      go_wp2_with (go_at_call 27; refine (his _).mono ?_; rintro e w' ⟨rfl, rfl⟩)
      go_round
      case rel => exact ⟨k + 1, by omega, by omega, by go_num⟩
      case measure => simp [intOf]; omega
end Go.Proofs.YtbhfblogjlpnlaaDoor
