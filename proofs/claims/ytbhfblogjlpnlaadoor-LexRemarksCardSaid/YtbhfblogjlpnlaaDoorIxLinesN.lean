/-
  The contract of the lexer's Lines at no source, and at one that is too long. Conditions: the handle of the type error.
-/
import Derived.Test.YtbhfblogjlpnlaaDoorIxLines
namespace Go.Proofs.YtbhfblogjlpnlaaDoor
open Go.RowKit

set_option maxRecDepth 100000 in
set_option maxHeartbeats 1000000 in
theorem line_none (ln : Int) (w : World) : Calls Tryd.prog 24 #[.slice none 0 0, .int .i64 ln] w (ILine w [] none ln) := by
  go_enter Tryd.func24, Tryd.ntmps24
  go_wp2_with fail
  refine (blanks0 _ _ _).mono ?_
  rintro e w' ⟨rfl, rfl⟩
  go_wp2_with fail
  refine wp_loop_rounds 1 ?_
  rw [rounds_succ]
  go_wp2_with fail
  go_ret2
  exact ⟨⟨_, rfl, World.ownsRow_nil _ _ _ _⟩, Below.refl _ _⟩

set_option maxRecDepth 100000 in
set_option maxHeartbeats 4000000 in
/-- Of nothing there is one line. -/
theorem ilines_none (w : World) : Calls Tryd.prog 12 #[.slice none 0 0] w (ILines w [[]] none) := by
  obtain ⟨i0, hi, hz0, hz1, hz2⟩ := info_parts Tryd.infoLine
  have HSP := Lib.hid (Any.bytes_Split_nil Tryd.laysSplit (some ⟨w.heap.size, 0, none⟩) 1 1 (w.alloc (.cells #[.int .u8 10] 5)) (by decide) (by decide) (fun _ => ⟨_, _, 10, rfl, by simp⟩))
  go_enter Tryd.func12, Tryd.ntmps12
  go_wp2_with fail
  refine HSP.out.mono ?_
  rintro e w2 ⟨rfl, hw2⟩
  have hb2 : Below w.heap.size w w2 := by rw [hw2]; exact ((Below.refl _ _).alloc (Nat.le_refl _) _).alloc (by simp) _
  have hsz : w2.heap.size = w.heap.size + 2 := by rw [hw2]; simp
  have hck : w2.cell? ⟨w.heap.size + 1, 0, none⟩ = some (.slice none 0 0) := by rw [hw2]; simp
  rw [World.size_alloc]
  have HB2 := Lib.hid hb2
  clear hw2 hb2
  go_wp2_with fail
  go_loopw [4, 18] (fun v i wr => (i = .int .i64 0 ∧ v = .slice none 0 0 ∧ wr = w2) ∨ (i = .int .i64 1 ∧ Hid (∃ us, wr.ownsRow w2.heap.size 36 1 v 1 us ∧ LinesAt wr w2.heap.size us [[]] ∧ Below w2.heap.size w2 wr))) (fun _ i _ => 2 - (intOf i).toNat)
  case atStart => exact .inl ⟨rfl, rfl, rfl⟩
  case round =>
    rcases hrel with ⟨rfl, rfl, rfl⟩ | ⟨rfl, H⟩
    · have hown : wr.ownsRow wr.heap.size 36 1 (.slice none 0 0) 0 [] := World.ownsRow_nil _ _ _ _
      have hlines : LinesAt wr wr.heap.size [] [] := ⟨rfl, fun i ps h => by simp at h⟩
      have HL := Lib.hid hlines
      have HCN := Lib.hid (fun (w1 : World) (u : Value) => cells_new w1 #[u] 36 w1.heap.size rfl)
      have HLA := Lib.hid (line_none 1 wr)
      clear hlines
      go_wp2_with fail
      refine HLA.out.mono ?_
      rintro e w1 ⟨⟨u, rfl, hu⟩, hb1⟩
      obtain ⟨Au, cu, rfl⟩ := own_shape hu
      have hs1 := hb1.size
      go_wp2_with (first | (at_builtin; refine wpList_append_own _ rfl _ _ 24 rfl wr.heap.size 36 i0 (.slice none 0 0) 1 24 Tryd.underlying24 hi hz0 hz1 hz2 rfl (by decide) _ _ _ rfl ((own_below hown hb1).alloc _) ⟨w1.heap.size, 0, none⟩ 1 1 [.slice Au 0 cu] rfl rfl (HCN.out w1 _) (by intro x hx; simp at hx; subst hx; rfl) (by unfold maxLen; omega) (by omega) (by simp; omega) ?_; intro v' w3 hown' hgrow _; have RR := sl_step (w2 := wr) (ls := [[]]) (all := [[]]) (done := []) (ps := []) (rest := []) (err := none) (i := 0) (fun _ => rfl) rfl hown HL.out (Below.refl _ _) hb1 hu hown' hgrow (.nil _); clear hown' hgrow))
      go_roundw
      case rel => exact .inr ⟨rfl, Lib.hid ⟨_, RR.own, RR.lines, RR.below⟩⟩
      case measure => decide
    · obtain ⟨us, hown, hlines, hbel⟩ := H.out
      have HO := Lib.hid hown
      have HL := Lib.hid hlines
      have HE := Lib.hid (HB2.out.trans (hbel.mono (by omega)))
      clear hown hlines hbel
      go_wp2_with fail
      go_ret2
      exact ⟨⟨_, us, rfl, own_base HO.out (by omega), HL.out.base (by omega)⟩, HE.out⟩

set_option maxRecDepth 100000 in
/-- A source that is too long. -/
theorem ilines_long (A : Option Addr) (n c : Nat) (hn : (65536 : Int) < n) (w : World) (hg : Handle w) : Calls Tryd.prog 12 #[.slice A n c] w (ILines w [] (some (0, 0, 12))) := by
  have HA := Lib.hid (at_any 1 1 12 w hg)
  go_enter Tryd.func12, Tryd.ntmps12
  go_wp2_with fail
  refine HA.out.mono ?_
  rintro e w2 ⟨g, rfl, hgb, hblk, hb2⟩
  have HK := Lib.hid hblk
  clear hblk
  go_wp2_with fail
  go_ret2
  exact ⟨⟨g, rfl, hgb, HK.out⟩, hb2⟩
end Go.Proofs.YtbhfblogjlpnlaaDoor
