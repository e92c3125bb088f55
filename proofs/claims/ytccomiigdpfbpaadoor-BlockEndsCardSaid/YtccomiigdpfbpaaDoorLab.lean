/-
  The contracts of block.Labels and of the reference's Labels: both count the tokens of the labels at a line's beginning. Condition: the tokens' cells are there.
-/
import Derived.Test.YtccomiigdpfbpaaDoorErr
import Derived.BigQuiet
import Derived.WalkSpells
import Derived.Deep.QuietTactic
import Derived.BigGuardPart
namespace Go.Proofs.YtccomiigdpfbpaaDoor
open Go.RowKit

/-- Tokens by their places. -/
structure TokFam where
  K : Nat → Int
  L : Nat → Int
  C : Nat → Int
  S : Nat → ByteArray
  N : Nat → Int
  Sc : Nat → Int
def TokFam.In (T : TokFam) (w : World) (b o len : Nat) : Prop := ∀ i, i < len → TokAt w b (o + i * 6) (T.K i) (T.L i) (T.C i) (T.S i) (T.N i) (T.Sc i)

/-- Is there a label at a place? -/
def TokFam.named (T : TokFam) (n : Nat) : Bool := T.K n == 1 || T.K n == 2
def TokFam.lab (T : TokFam) (n : Nat) : Bool := T.named n && (T.K (n + 1) == 7 && (T.S (n + 1)).toList == [58])
/-- How many tokens the labels are, from a place on. -/
def TokFam.labs (T : TokFam) (len n : Nat) : Nat := if _ : n + 1 < len ∧ T.lab n = true then T.labs len (n + 2) else n
  termination_by len - n

set_option maxRecDepth 100000 in
theorem isNamed_any (k L C : Int) (s : ByteArray) (n sc : Int) (r : Bool) (hr : (k == 1 || k == 2) = r) (w : World) :
    Calls Tryd.prog 23 #[.agg #[.int .i64 k, .int .i64 L, .int .i64 C, .string s, .int .u32 n, .int .i64 sc]] w fun e w' => e = .returned (.bool r) ∧ Below w.heap.size w w' := by
  rcases Bool.eq_false_or_eq_true (k == 1) with h1 | h1
  · have hr' : r = true := by rw [← hr, h1]; rfl
    subst hr'
    clear hr
    go_enter Tryd.func23, Tryd.ntmps23
    go_wp2
    go_ret
    exact ⟨rfl, (Below.refl _ _).alloc (Nat.le_refl _) _⟩
  · have hr' : r = (k == 2) := by rw [← hr, h1]; rfl
    subst hr'
    clear hr
    go_enter Tryd.func23, Tryd.ntmps23
    go_wp2
    go_ret
    exact ⟨rfl, (Below.refl _ _).alloc (Nat.le_refl _) _⟩

theorem TokFam.labs_stop (T : TokFam) (len n : Nat) (h : ¬ (n + 1 < len ∧ T.lab n = true)) : T.labs len n = n := by rw [TokFam.labs, dif_neg h]
theorem TokFam.labs_go (T : TokFam) (len n : Nat) (h : n + 1 < len) (h2 : T.lab n = true) : T.labs len n = T.labs len (n + 2) := by rw [TokFam.labs, dif_pos ⟨h, h2⟩]

set_option maxRecDepth 100000 in
set_option maxHeartbeats 1000000 in
theorem labels_any (T : TokFam) (b o len cap : Nat) (hlen : len ≤ 600) (w : World) (hT : T.In w b o len) :
    Calls Tryd.prog 14 #[.slice (some ⟨b, o, none⟩) len cap] w fun e w' => e = .returned (.int .i64 (T.labs len 0)) ∧ Below w.heap.size w w' := by
  have HT := Lib.hid hT
  clear hT
  go_enter Tryd.func14, Tryd.ntmps14
  go_wp2
  go_loopw [3] (fun i wr => ∃ k : Nat, k ≤ len ∧ i = .int .i64 k ∧ Hid (T.labs len k = T.labs len 0) ∧ Below w.heap.size w wr) (fun i _ => len - (intOf i).toNat)
  case atStart => exact ⟨0, by omega, rfl, rfl, Below.refl _ _⟩
  case round =>
    obtain ⟨k, hk, rfl, hL, hb⟩ := hrel
    have HB := Lib.hid hb
    clear hb
    by_cases hlt : k + 1 < len
    · have hT0 := HT.out k (by omega)
      have hT1 := HT.out (k + 1) hlt
      have hbw : b < w.heap.size := World.block_lt_of_cell? w _ hT0.c0
      have hw0 := hT0.keep (HB.out.block b hbw)
      have hw1 := hT1.keep (HB.out.block b hbw)
      have a0 := hw0.c0
      have a1 := hw0.c1
      have a2 := hw0.c2
      have a3 := hw0.c3
      have a4 := hw0.c4
      have a5 := hw0.c5
      have b0 := hw1.c0
      have b3 := hw1.c3
      have h1 : ((k : Int) + 1) < len := by omega
      have hbr : b < wr.heap.size := Nat.lt_of_lt_of_le hbw HB.out.size
      have hstop : T.lab k = false → T.labs len k = k := fun h => T.labs_stop len k (by rw [h]; simp)
      have hgo := T.labs_go len k hlt
      have HS := Lib.hid hstop
      have HG := Lib.hid hgo
      clear hstop hgo
      rcases Bool.eq_false_or_eq_true (T.named k) with hn | hn
      · have hcall := fun W => isNamed_any (T.K k) (T.L k) (T.C k) (T.S k) (T.N k) (T.Sc k) true hn W
        rcases Bool.eq_false_or_eq_true (T.K (k + 1) == 7) with hm | hm
        · rcases Bool.eq_false_or_eq_true ((T.S (k + 1)).toList == [58]) with hc | hc
          · have HL2 : Hid (T.labs len (k + 2) = T.labs len 0) := (HG.out (by unfold TokFam.lab; rw [hn, hm, hc]; rfl)).symm.trans hL.out
            clear hn
            go_wp2_with (go_at_call 23; refine (hcall _).mono ?_; rintro e w1 ⟨rfl, hb1⟩; have d0 := (hb1.cell (p := ⟨b, o + (k + 1) * 6, none⟩) hbr).trans b0; have d3 := (hb1.cell (p := ⟨b, o + (k + 1) * 6 + 3, none⟩) hbr).trans b3)
            go_roundw
            case rel => exact ⟨k + 2, by omega, by go_num, HL2, HB.out.trans (hb1.mono HB.out.size)⟩
            case measure => simp [intOf]; omega
          · have HL2 : Hid (T.labs len 0 = k) := hL.out.symm.trans (HS.out (by unfold TokFam.lab; rw [hn, hm, hc]; rfl))
            clear hn
            go_wp2_with (go_at_call 23; refine (hcall _).mono ?_; rintro e w1 ⟨rfl, hb1⟩; have d0 := (hb1.cell (p := ⟨b, o + (k + 1) * 6, none⟩) hbr).trans b0; have d3 := (hb1.cell (p := ⟨b, o + (k + 1) * 6 + 3, none⟩) hbr).trans b3)
            go_ret
            exact ⟨by rw [HL2.out]; rfl, HB.out.trans (hb1.mono HB.out.size)⟩
        · have HL2 : Hid (T.labs len 0 = k) := hL.out.symm.trans (HS.out (by unfold TokFam.lab; rw [hn, hm]; rfl))
          clear hn
          go_wp2_with (go_at_call 23; refine (hcall _).mono ?_; rintro e w1 ⟨rfl, hb1⟩; have d0 := (hb1.cell (p := ⟨b, o + (k + 1) * 6, none⟩) hbr).trans b0; have d3 := (hb1.cell (p := ⟨b, o + (k + 1) * 6 + 3, none⟩) hbr).trans b3)
          go_ret
          exact ⟨by rw [HL2.out]; rfl, HB.out.trans (hb1.mono HB.out.size)⟩
      · have hcall := fun W => isNamed_any (T.K k) (T.L k) (T.C k) (T.S k) (T.N k) (T.Sc k) false hn W
        have HL2 : Hid (T.labs len 0 = k) := hL.out.symm.trans (HS.out (by unfold TokFam.lab; rw [hn]; rfl))
        clear hn
        go_wp2_with (go_at_call 23; refine (hcall _).mono ?_; rintro e w1 ⟨rfl, hb1⟩)
        go_ret
        exact ⟨by rw [HL2.out]; rfl, HB.out.trans (hb1.mono HB.out.size)⟩
    · have HL2 : Hid (T.labs len 0 = k) := hL.out.symm.trans (T.labs_stop len k (fun h => hlt h.1))
      have h1 : ¬ ((k : Int) + 1) < len := by omega
      go_wp2
      go_ret
      exact ⟨by rw [HL2.out]; rfl, HB.out⟩

set_option maxRecDepth 100000 in
set_option maxHeartbeats 1000000 in
theorem refLabels_any (T : TokFam) (b o len cap : Nat) (hlen : len ≤ 600) (w : World) (hT : T.In w b o len) :
    Calls Tryd.prog 15 #[.slice (some ⟨b, o, none⟩) len cap] w fun e w' => e = .returned (.int .i64 (T.labs len 0)) ∧ w = w' := by
  have HT := Lib.hid hT
  clear hT
  go_enter Tryd.func15, Tryd.ntmps15
  go_wp2
  go_loop [3] (fun i => ∃ k : Nat, k ≤ len ∧ i = .int .i64 k ∧ Hid (T.labs len k = T.labs len 0)) (fun i => len - (intOf i).toNat)
  case atStart => exact ⟨0, by omega, rfl, rfl⟩
  case round =>
    obtain ⟨k, hk, rfl, hL⟩ := hrel
    by_cases hlt : k + 1 < len
    · have hT0 := HT.out k (by omega)
      have hT1 := HT.out (k + 1) hlt
      have a0 := hT0.c0
      have b0 := hT1.c0
      have b3 := hT1.c3
      have h1 : ((k : Int) + 2) ≤ len := by omega
      have hstop : T.lab k = false → T.labs len k = k := fun h => T.labs_stop len k (by rw [h]; simp)
      have hgo := T.labs_go len k hlt
      have HS := Lib.hid hstop
      have HG := Lib.hid hgo
      clear hstop hgo
      rcases Bool.eq_false_or_eq_true (T.K k == 1) with h1' | h1'
      all_goals rcases Bool.eq_false_or_eq_true (T.K k == 2) with h2' | h2'
      all_goals rcases Bool.eq_false_or_eq_true (T.K (k + 1) == 7) with h7' | h7'
      all_goals rcases Bool.eq_false_or_eq_true ((T.S (k + 1)).toList == [58]) with hc' | hc'
      all_goals
        have e1 : (T.K k != 1) = !(T.K k == 1) := rfl
        have e2 : (T.K k != 2) = !(T.K k == 2) := rfl
        have e7 : (T.K (k + 1) != 7) = !(T.K (k + 1) == 7) := rfl
        rw [h1'] at e1
        rw [h2'] at e2
        rw [h7'] at e7
      all_goals first
        | (have HL2 : Hid (T.labs len (k + 2) = T.labs len 0) := (HG.out (by unfold TokFam.lab TokFam.named; rw [h1', h2', h7', hc']; rfl)).symm.trans hL.out
           clear h1' h2' h7'
           go_wp2
           go_round
           case rel => exact ⟨k + 2, by omega, by go_num, HL2⟩
           case measure => simp [intOf]; omega)
        | (have HL2 : Hid (T.labs len 0 = k) := hL.out.symm.trans (HS.out (by unfold TokFam.lab TokFam.named; rw [h1', h2', h7', hc']; rfl))
           clear h1' h2' h7'
           go_wp2
           go_ret
           exact ⟨by rw [HL2.out]; rfl, rfl⟩)
    · have HL2 : Hid (T.labs len 0 = k) := hL.out.symm.trans (T.labs_stop len k (fun h => hlt h.1))
      have h1 : ¬ ((k : Int) + 2) ≤ len := by omega
      go_wp2
      go_ret
      exact ⟨by rw [HL2.out]; rfl, rfl⟩
end Go.Proofs.YtccomiigdpfbpaaDoor
