/-
  The contracts of the law's own Words and Light. Conditions: the words are the same ones; the items' cells are there.
-/
import Derived.Test.YtbhfblogjlpnlabDoorLying
namespace Go.Proofs.YtbhfblogjlpnlabDoor
open Go.RowKit

def Drawn (w wr : World) : Prop := ∃ q, wr = w.drewN q
theorem Drawn.start (w : World) : Drawn w w := ⟨0, rfl⟩
theorem Drawn.more {w wr : World} (h : Drawn w wr) (q : Nat) : Drawn w (wr.drewN q) := by obtain ⟨m, rfl⟩ := h; exact ⟨m + q, by simp⟩
theorem Drawn.below {w wr : World} (h : Drawn w wr) : Below w.heap.size w wr := by obtain ⟨m, rfl⟩ := h; exact ⟨rfl, rfl, rfl, Nat.le_refl _, fun _ _ => rfl⟩
theorem Drawn.old {w wr : World} (h : Drawn w wr) {a : Addr} {v : Value} (hv : w.cell? a = some v) : wr.cell? a = some v := by obtain ⟨m, rfl⟩ := h; exact hv

def U32In (V : Nat → Int) (w : World) (A : Option Addr) (n : Nat) : Prop := ∀ j, j < n → ∃ B O, A = some ⟨B, O, none⟩ ∧ w.cell? ⟨B, O + j, none⟩ = some (.int .u32 (V j))
theorem U32In.below {V : Nat → Int} {w w' : World} {A : Option Addr} {n : Nat} (h : U32In V w A n) (hb : Below w.heap.size w w') : U32In V w' A n := by
  intro j hj
  obtain ⟨B, O, hA, hc⟩ := h j hj
  exact ⟨B, O, hA, (hb.cell (p := ⟨B, O + j, none⟩) (World.block_lt_of_cell? _ _ hc)).trans hc⟩

set_option maxRecDepth 100000 in
set_option maxHeartbeats 2000000 in
theorem words_same (V : Nat → Int) (A1 A2 : Option Addr) (n c1 c2 : Nat) (hn : n ≤ 5000) (w : World) (h1 : U32In V w A1 n) (h2 : U32In V w A2 n) :
    Calls Tryd.prog 35 #[.slice A1 n c1, .slice A2 n c2] w fun e w' => e = .returned (.bool true) ∧ Below w.heap.size w w' := by
  have H1 := Lib.hid h1
  have H2 := Lib.hid h2
  clear h1 h2
  go_enter Tryd.func35, Tryd.ntmps35
  go_wp2
  go_loopw [5] (fun i wr => ∃ k : Nat, k ≤ n ∧ i = .int .i64 k ∧ Drawn w wr) (fun i _ => n - (intOf i).toNat)
  case atStart => exact ⟨0, Nat.zero_le _, rfl, Drawn.start w⟩
  case round =>
    obtain ⟨k, hk, rfl, hd⟩ := hrel
    by_cases hlt : k < n
    · obtain ⟨B, O, hA, hc⟩ := H1.out k hlt
      obtain ⟨B2, O2, hA2, hc2⟩ := H2.out k hlt
      subst hA hA2
      replace hc := hd.old hc
      replace hc2 := hd.old hc2
      have hv : (V k != V k) = false := by simp
      go_wp2
      go_quiet (fail)
      go_wp2
      go_roundw
      case rel => exact ⟨k + 1, by omega, by go_num, hd.more _⟩
      case measure => simp [intOf]; omega
    · obtain rfl : k = n := by omega
      go_wp2
      go_ret
      exact ⟨rfl, hd.below⟩

/-- What Light answers: yes only for few items with short names. -/
def LightOut (F : Nat → Itm) (n : Nat) (w : World) (e : Ending) (w' : World) : Prop := ∃ r : Bool, e = .returned (.bool r) ∧ (r = true → n ≤ 300 ∧ ∀ k, k < n → (F k).nm.size ≤ 4294967296) ∧ Below w.heap.size w w'

set_option maxRecDepth 100000 in
set_option maxHeartbeats 4000000 in
theorem light_any (F : Nat → Itm) (A : Option Addr) (n cap : Nat) (w : World) (hn : n ≤ 140737488351232) (h : ItsIn w.heap.size F w A n) (hs : ∀ k, k < n → (F k).nm.size ≤ 140737488351232 ∧ (F k).nl ≤ 140737488351232) :
    Calls Tryd.prog 32 #[.slice A n cap] w (LightOut F n w) := by
  have H := Lib.hid h
  have HS := Lib.hid hs
  clear h hs
  go_enter Tryd.func32, Tryd.ntmps32
  go_wp2
  go_loopw [3, 4] (fun v i wr => ∃ (k : Nat) (x : Int), k ≤ n ∧ i = .int .i64 k ∧ v = .int .i64 x ∧ (n : Int) ≤ x ∧ Hid (∀ j, j < k → ((F j).nm.size : Int) / 1000 ≤ x) ∧ Drawn w wr) (fun _ i _ => n - (intOf i).toNat)
  case atStart => exact ⟨0, n, Nat.zero_le _, rfl, rfl, Int.le_refl _, fun j hj => absurd hj (by omega), Drawn.start w⟩
  case round =>
    obtain ⟨k, x, hk, rfl, rfl, hx, hall, hd⟩ := hrel
    by_cases hlt : k < n
    · by_cases hx3 : x ≤ 300
      · obtain ⟨B, O, hA, hB, hit⟩ := H.out k hlt
        subst hA
        obtain ⟨hs1, hs2⟩ := HS.out k hlt
        have c3 := hd.old hit.c3
        have c11 := hd.old hit.c11
        clear hit
        have q1 : wrap64 (x + ((F k).nl : Int)) = x + ((F k).nl : Int) := by unfold wrap64; omega
        go_wp2
        go_quiet (fail)
        go_wp2
        refine ⟨⟨k + 1, x + ((F k).nl : Int) + ((F k).nm.size : Int) / 1000, by omega, by simp, rfl, by omega, fun j hj => ?_, hd.more _⟩, by simp [intOf]; omega⟩
        rcases Nat.lt_or_ge j k with h1 | h1
        · have := hall.out j h1
          omega
        · obtain rfl : j = k := by omega
          omega
      · have hx4 : ¬ x ≤ 300 := hx3
        go_wp2
        go_ret
        exact ⟨false, by simp, by simp, hd.below⟩
    · obtain rfl : k = n := by omega
      go_wp2
      go_ret
      refine ⟨_, rfl, fun hr => ?_, hd.below⟩
      simp at hr
      refine ⟨by omega, fun j hj => ?_⟩
      have h1 := hall.out j hj
      omega
end Go.Proofs.YtbhfblogjlpnlabDoor
