/-
  The layer's own check answers true. Condition: the handle of the type error.
-/
import Derived.Test.YtbhfblogjlpnlabDoorPlace
import Derived.Test.YtbhfblogjlpnlabDoorWords
import Derived.Test.YtbhfblogjlpnlabDoorKept
namespace Go.Proofs.YtbhfblogjlpnlabDoor
open Go.RowKit

def itOf (K L C : Int) (nm : ByteArray) (sz num : Int) : Itm := ⟨K, L, C, nm, 0, 0, 0, 0, 0, ⟨#[]⟩, sz, none, 0, 0, num, false, false⟩
def aw1 : Pl := ⟨fun k => if k = 0 then itOf 9 0 0 ⟨#[97, 98, 99]⟩ 0 0 else if k = 1 then itOf 10 0 0 ⟨#[]⟩ 0 4 else itOf 8 0 0 ⟨#[]⟩ 4 0, fun _ => 0, 0, 3, 2⟩
def aw2 : Pl := ⟨fun k => if k = 0 then itOf 9 0 0 ⟨#[97]⟩ 0 0 else itOf 2 7 3 ⟨#[]⟩ 0 0, fun _ => 0, 0, 2, 0⟩
theorem aw1_ok : aw1.Ok where
  b0 := by decide
  b1 := by decide
  num := by
    intro k hk
    rcases (show k = 0 ∨ k = 1 ∨ k = 2 by change k < 3 at hk; omega) with rfl | rfl | rfl <;> decide
  nm := by
    intro k hk
    rcases (show k = 0 ∨ k = 1 ∨ k = 2 by change k < 3 at hk; omega) with rfl | rfl | rfl <;> decide
  few := by decide
theorem aw2_ok : aw2.Ok where
  b0 := by decide
  b1 := by decide
  num := by
    intro k hk
    rcases (show k = 0 ∨ k = 1 by change k < 2 at hk; omega) with rfl | rfl <;> decide
  nm := by
    intro k hk
    rcases (show k = 0 ∨ k = 1 by change k < 2 at hk; omega) with rfl | rfl <;> decide
  few := by decide
theorem aw1_right : ∀ k, k < 3 → aw1.wrong k = 0 := by
  intro k hk
  rcases (show k = 0 ∨ k = 1 ∨ k = 2 by omega) with rfl | rfl | rfl <;> decide
theorem aw1_at : aw1.at_ 0 = 2 ∧ aw1.at_ 1 = 5 ∧ aw1.at_ 2 = 8 ∧ aw1.at_ 3 = 12 := by decide
theorem aw2_wrong : aw2.wrong 0 = 0 ∧ aw2.wrong 1 = 16 := by decide

@[reducible] def aw1Cells : Array Value := #[.int .i64 9, .int .i64 0, .int .i64 0, .string ⟨#[97, 98, 99]⟩, .int .i64 0, .int .i64 0, .int .i64 0, .int .i64 0, .int .i32 0, .string ⟨#[]⟩, .int .i64 0, .slice none 0 0, .int .u32 0, .bool false, .bool false,
  .int .i64 10, .int .i64 0, .int .i64 0, .string ⟨#[]⟩, .int .i64 0, .int .i64 0, .int .i64 0, .int .i64 0, .int .i32 0, .string ⟨#[]⟩, .int .i64 0, .slice none 0 0, .int .u32 4, .bool false, .bool false,
  .int .i64 8, .int .i64 0, .int .i64 0, .string ⟨#[]⟩, .int .i64 0, .int .i64 0, .int .i64 0, .int .i64 0, .int .i32 0, .string ⟨#[]⟩, .int .i64 4, .slice none 0 0, .int .u32 0, .bool false, .bool false]
@[reducible] def aw2Cells : Array Value := #[.int .i64 9, .int .i64 0, .int .i64 0, .string ⟨#[97]⟩, .int .i64 0, .int .i64 0, .int .i64 0, .int .i64 0, .int .i32 0, .string ⟨#[]⟩, .int .i64 0, .slice none 0 0, .int .u32 0, .bool false, .bool false,
  .int .i64 2, .int .i64 7, .int .i64 3, .string ⟨#[]⟩, .int .i64 0, .int .i64 0, .int .i64 0, .int .i64 0, .int .i32 0, .string ⟨#[]⟩, .int .i64 0, .slice none 0 0, .int .u32 0, .bool false, .bool false]
theorem aw1_in {w : World} {g n₀ : Nat} (h : Blk w g 89 aw1Cells) (hg : g < n₀) : ItsIn n₀ aw1.F w (some ⟨g, 0, none⟩) 3 := by
  intro k hk
  refine ⟨g, 0, rfl, hg, ?_⟩
  rcases (show k = 0 ∨ k = 1 ∨ k = 2 by omega) with rfl | rfl | rfl <;> exact ⟨h.cell _, h.cell _, h.cell _, h.cell _, h.cell _, h.cell _, h.cell _, h.cell _, h.cell _, h.cell _, h.cell _, h.cell _, h.cell _, h.cell _, h.cell _⟩
theorem aw2_in {w : World} {g n₀ : Nat} (h : Blk w g 89 aw2Cells) (hg : g < n₀) : ItsIn n₀ aw2.F w (some ⟨g, 0, none⟩) 2 := by
  intro k hk
  refine ⟨g, 0, rfl, hg, ?_⟩
  rcases (show k = 0 ∨ k = 1 by omega) with rfl | rfl <;> exact ⟨h.cell _, h.cell _, h.cell _, h.cell _, h.cell _, h.cell _, h.cell _, h.cell _, h.cell _, h.cell _, h.cell _, h.cell _, h.cell _, h.cell _, h.cell _⟩

/-- A row of words that is one's own, as words. -/
theorem row_words {w : World} {base g n cap : Nat} {V : Nat → Int} (h : w.ownsRow base 35 1 (.slice (some ⟨g, 0, none⟩) n cap) n ((List.range n).map fun k => .int .u32 (V k))) : U32In V w (some ⟨g, 0, none⟩) n := by
  intro j hj
  refine ⟨g, 0, rfl, ?_⟩
  rw [Nat.zero_add, h.cellAt j (by omega)]
  simp [hj]

theorem place1 (w : World) (hg : Handle w) : Calls Tryd.prog 33 #[.slice (some ⟨w.heap.size, 0, none⟩) 3 3, .slice none 0 0, .int .u32 2] (w.alloc (.cells aw1Cells 89)) fun e w' =>
    ∃ g, e = .returned (.tuple #[.slice (some ⟨g, 0, none⟩) 4 4, .nilIface]) ∧ U32In aw1.at_ w' (some ⟨g, 0, none⟩) 4 ∧ Below w.heap.size w w' := by
  have h := place_any aw1 aw1_ok (some ⟨w.heap.size, 0, none⟩) 3 none 0 (w.alloc (.cells aw1Cells 89)) (hg.alloc _) (aw1_in (Blk.new _ _ _) (by simp)) (fun j hj => absurd hj (by change ¬ j < 0; omega))
  refine h.mono ?_
  rintro e w' ⟨h1, hb⟩
  have hb' : Below w.heap.size w w' := ((Below.refl _ _).alloc (Nat.le_refl _) _).trans (hb.mono (by simp))
  rcases h1 with ⟨_, g, he, hrow⟩ | ⟨k, hk, _, hw, _⟩
  · exact ⟨g, he, row_words hrow, hb'⟩
  · exact absurd (aw1_right k hk) hw
theorem place2 (w : World) (hg : Handle w) : Calls Tryd.prog 33 #[.slice (some ⟨w.heap.size, 0, none⟩) 2 2, .slice none 0 0, .int .u32 0] (w.alloc (.cells aw2Cells 89)) fun e w' =>
    ∃ b, e = .returned (.tuple #[.slice none 0 0, .iface 107 (.pointer (some ⟨b, 0, none⟩))]) ∧ Blk w' b 113 #[.int .i64 7, .int .i64 3, .iface 111 (.int .i64 16)] ∧ Below w.heap.size w w' := by
  have h := place_any aw2 aw2_ok (some ⟨w.heap.size, 0, none⟩) 2 none 0 (w.alloc (.cells aw2Cells 89)) (hg.alloc _) (aw2_in (Blk.new _ _ _) (by simp)) (fun j hj => absurd hj (by change ¬ j < 0; omega))
  refine h.mono ?_
  rintro e w' ⟨h1, hb⟩
  have hb' : Below w.heap.size w w' := ((Below.refl _ _).alloc (Nat.le_refl _) _).trans (hb.mono (by simp))
  rcases h1 with ⟨hall, _⟩ | ⟨k, hk, _, hw, b, he, _, hk2⟩
  · have := hall 1 (by decide)
    rw [aw2_wrong.2] at this
    cases this
  · change k < 2 at hk
    rcases (show k = 0 ∨ k = 1 by omega) with rfl | rfl
    · exact absurd aw2_wrong.1 hw
    · rw [aw2_wrong.2] at hk2
      exact ⟨b, he, hk2, hb'⟩

set_option maxRecDepth 100000 in
set_option maxHeartbeats 8000000 in
theorem awake_any (w : World) (hg : Handle w) :
    Calls Tryd.prog 31 #[] w fun e w' => e = .returned (.bool true) ∧ Below w.heap.size w w' := by
  have heq := eql_faults
  have h1 := place1 w hg
  go_enter Tryd.func31, Tryd.ntmps31
  go_wp2_with fail
  refine h1.mono ?_
  rintro e w1 ⟨g, rfl, hU, hb1⟩
  have h2 := place2 w1 (hg.below hb1 hg.pos)
  clear h1
  go_wp2_with fail
  refine h2.mono ?_
  rintro e w2 ⟨b, rfl, hk, hb2⟩
  clear h2
  have hW : U32In aw1.at_ (w2.alloc (.cells #[.int .u32 2, .int .u32 5, .int .u32 8, .int .u32 12] 35)) (some ⟨w2.heap.size, 0, none⟩) 4 := by
    intro j hj
    obtain ⟨a0, a1, a2, a3⟩ := aw1_at
    refine ⟨w2.heap.size, 0, rfl, ?_⟩
    rcases (show j = 0 ∨ j = 1 ∨ j = 2 ∨ j = 3 by omega) with rfl | rfl | rfl | rfl <;> simp [a0, a1, a2, a3]
  have hb12 := hb1.trans (hb2.mono hb1.size)
  have hB2 : Below w.heap.size w (w2.alloc (.cells #[.int .u32 2, .int .u32 5, .int .u32 8, .int .u32 12] 35)) := hb12.alloc hb12.size _
  have hwd := words_same aw1.at_ (some ⟨g, 0, none⟩) (some ⟨w2.heap.size, 0, none⟩) 4 4 4 (by omega) _ ((hU.below hb2).below ((Below.refl _ _).alloc (Nat.le_refl _) _)) hW
  have HB2 := Lib.hid hB2
  have HK := Lib.hid (hk.alloc (.cells #[.int .u32 2, .int .u32 5, .int .u32 8, .int .u32 12] 35))
  clear hU hW hB2 hb12 hk hb2 hb1
  go_wp2_with fail
  refine hwd.mono ?_
  rintro e w3 ⟨rfl, hb3⟩
  clear hwd
  have hB3 : Below w.heap.size w w3 := HB2.out.trans (hb3.mono HB2.out.size)
  have hft := fault_err b 7 3 16 w3 (hg.below hB3 hg.pos) (by omega) (by omega) (HK.out.below hb3 HK.out.lt)
  have HB3 := Lib.hid hB3
  clear hB3 hb3
  go_wp2_with fail
  refine hft.mono ?_
  rintro e w4 ⟨rfl, hb4⟩
  go_wp2
  go_ret
  exact ⟨rfl, HB3.out.trans (hb4.mono HB3.out.size)⟩
end Go.Proofs.YtbhfblogjlpnlabDoor
