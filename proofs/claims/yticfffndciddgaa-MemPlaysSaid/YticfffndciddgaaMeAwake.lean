/-
  The law's awake: true. No condition.
-/
import Derived.Test.YticfffndciddgaaMeSame
import Derived.Test.YticfffndciddgaaMeFacts
namespace Go.Proofs.Yticfffndciddgaa
open Go.RowKit Go.Maps

theorem cells_none (w : World) : CellsAt w none [] := ⟨fun i x hx => by simp at hx, fun x hx => by simp at hx⟩
theorem wid_two : wid 2 = 2 := by decide
theorem wid_one : wid 1 = 1 := by decide
theorem wid_four : wid 4 = 4 := by decide

set_option maxRecDepth 100000 in
set_option maxHeartbeats 800000 in
theorem awake_is (w : World) : Calls Try.prog 7 #[] w fun e w' => e = .returned (.bool true) ∧ Below w.heap.size w w' := by
  have HN := Lib.hid (new_is (c := 0) (cells_none w) (Nat.zero_le _) (by simp [maxLen]) (by simp))
  have HB := Lib.hid fun W => (run_build (P := Try.prog) W 47 #[(0, .int .u32 0), (1, .int .u8 1)] #[.int .u32 0, .int .u8 1] (by kernel_rfl))
  go_enter Try.func7, Try.ntmps7
  go_wp2_with (go_at_call 9; refine HN.out.mono ?_; rintro e w1 ⟨p, b, rfl, p0, b0, m1, s1⟩)
  have HS := Lib.hid (store_is m1 4294967295 258 2 (by omega) (by omega) (by omega) (by omega) (by simp))
  have H1 := Lib.hid (And.intro m1 s1)
  clear m1 s1
  go_wp2_with (go_at_call 11; refine HS.out.mono ?_; rintro e w2 ⟨rfl, m2, g2⟩)
  rw [wid_two] at m2
  have m3 : MemIs w2 p b 2 wakeF := m2
  have hs := H1.out.2.size
  have s2 : Below w.heap.size w w2 := H1.out.2.grown g2 hs (fun k q => by injection q with q; omega)
  have HC := Lib.hid (cells_is m3 (by omega))
  have H2 := Lib.hid (And.intro m3 s2)
  clear m2 m3 g2 s2
  go_wp2_with (go_at_call 18; refine HC.out.mono ?_; rintro e w3 ⟨A, c, l, rfl, l1, l2, l3, l4, l5, l6⟩)
  obtain rfl : l = [(0, 1), (4294967295, 2)] := l3.eq wake_listed
  have m3 := H2.out.1.next (l6.mono (Nat.le_refl _))
  obtain ⟨g, o, rfl, hg, e0, e1⟩ := l4.at_ 0 (0, 1) rfl
  have HL1 := Lib.hid (load_is m3 4294967295 2 (by omega) (by omega))
  have HL2 := Lib.hid (load_is m3 0 1 (by omega) (by omega))
  rw [wid_two, wake_two] at HL1
  rw [wid_one, wake_one] at HL2
  have hce := cell_eq 0 1 0 1
  simp only [beq_self_eq_true, Bool.and_self] at hce
  have hbd := HB.out
  have H3 := Lib.hid (H2.out.2.trans (l6.mono H2.out.2.size))
  simp at e0 e1
  clear l1 l2 l3 l4 l5 l6 m3
  go_wp2_with (first
    | (go_at_call 15; refine HL1.out.mono ?_; rintro e w4 ⟨rfl, rfl⟩; clear HL1)
    | (go_at_call 15; refine HL2.out.mono ?_; rintro e w4 ⟨rfl, rfl⟩))
  go_ret
  exact ⟨rfl, H3.out⟩
end Go.Proofs.Yticfffndciddgaa
