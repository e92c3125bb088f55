/-
  The law BlockKinds, walked: it returns true. Conditions: the handle of the type error; the tokens' cells are there.
-/
import Derived.Test.YtccomiigdpfbpaaDoorAwake2
import Derived.Test.YtccomiigdpfbpaaDoorLab
namespace Go.Proofs.YtccomiigdpfbpaaDoor
open Go.RowKit

set_option maxRecDepth 100000 in
theorem labels_none (A : Option Addr) (cap : Nat) (w : World) :
    Calls Tryd.prog 14 #[.slice A 0 cap] w fun e w' => e = .returned (.int .i64 0) ∧ Below w.heap.size w w' := by
  go_enter Tryd.func14, Tryd.ntmps14
  go_wp2
  refine wp_loop_rounds 1 ?_
  rw [rounds_succ]
  go_wp2
  go_ret
  exact ⟨rfl, Below.refl _ _⟩

set_option maxRecDepth 100000 in
theorem refLabels_none (A : Option Addr) (cap : Nat) (w : World) :
    Calls Tryd.prog 15 #[.slice A 0 cap] w fun e w' => e = .returned (.int .i64 0) ∧ w = w' := by
  go_enter Tryd.func15, Tryd.ntmps15
  go_wp2
  refine wp_loop_rounds 1 ?_
  rw [rounds_succ]
  go_wp2
  go_ret
  exact ⟨rfl, rfl⟩

/-- What the four calls come to, in every world behind. -/
structure KindsMeet (w : World) (v : Value) (k l : Int) : Prop where
  a : ∀ W, Below w.heap.size w W → Calls Tryd.prog 12 #[v] W fun e w' => e = .returned (.int .i64 k) ∧ W = w'
  b : ∀ W, Below w.heap.size w W → Calls Tryd.prog 13 #[v] W fun e w' => e = .returned (.int .i64 k) ∧ Below W.heap.size W w'
  c : ∀ W, Below w.heap.size w W → Calls Tryd.prog 14 #[v] W fun e w' => e = .returned (.int .i64 l) ∧ Below W.heap.size W w'
  d : ∀ W, Below w.heap.size w W → Calls Tryd.prog 15 #[v] W fun e w' => e = .returned (.int .i64 l) ∧ W = w'

theorem kinds_none (A : Option Addr) (cap : Nat) (w : World) : KindsMeet w (.slice A 0 cap) 0 0 where
  a W _ := kindOf_none A cap W
  b W _ := (refKind_none A cap W).mono fun _ _ h => h
  c W _ := labels_none A cap W
  d W _ := refLabels_none A cap W

theorem TokFam.In.below {T : TokFam} {w w' : World} {b o len : Nat} (h : T.In w b o len) (hb : Below w.heap.size w w') : T.In w' b o len := fun i hi =>
  (h i hi).keep (hb.block b (World.block_lt_of_cell? w _ (h i hi).c0))

theorem kinds_some (T : TokFam) (b o len cap : Nat) (w : World) (h0 : 0 < len) (hlen : len ≤ 600) (hT : T.In w b o len) : KindsMeet w (.slice (some ⟨b, o, none⟩) len cap) (kindOf (T.K 0) (T.S 0)) (T.labs len 0) where
  a W hb := by
    have ht := hT.below hb 0 h0
    exact kindOf_any b o len cap h0 _ _ W (by have := ht.c0; simpa using this) (by have := ht.c3; simpa using this)
  b W hb := by
    have ht := hT.below hb 0 h0
    exact (refKind_any b o len cap h0 _ _ W (by have := ht.c0; simpa using this) (by have := ht.c3; simpa using this)).mono fun _ _ h => h
  c W hb := labels_any T b o len cap hlen W (hT.below hb)
  d W hb := refLabels_any T b o len cap hlen W (hT.below hb)

set_option maxRecDepth 100000 in
set_option maxHeartbeats 2000000 in
theorem kinds_long (A : Option Addr) (len cap : Nat) (w : World) (hg : Handle w) (hl : 600 < len) :
    Calls Tryd.prog 4 #[.slice A len cap] w fun e w' => e = .returned (.bool true) ∧ Below w.heap.size w w' := by
  have haw := awake_any w hg
  have hl2 : (600 : Int) < len := by omega
  go_enter Tryd.func4, Tryd.ntmps4
  go_wp2_with (go_at_call 7; refine haw.mono ?_; rintro e w1 ⟨rfl, hb1⟩)
  go_ret
  exact ⟨rfl, hb1⟩

set_option maxRecDepth 100000 in
set_option maxHeartbeats 4000000 in
theorem kinds_short (A : Option Addr) (len cap : Nat) (k l : Int) (w : World) (hg : Handle w) (hl : len ≤ 600) (hm : KindsMeet w (.slice A len cap) k l) :
    Calls Tryd.prog 4 #[.slice A len cap] w fun e w' => e = .returned (.bool true) ∧ Below w.heap.size w w' := by
  have haw := awake_any w hg
  have hl2 : ¬ (600 : Int) < len := by omega
  go_enter Tryd.func4, Tryd.ntmps4
  go_wp2_with fail
  refine haw.mono ?_
  rintro e w1 ⟨rfl, hb1⟩
  have h1 := hm.a w1 hb1
  have h2 := hm.b w1 hb1
  go_wp2_with fail
  refine h1.mono ?_
  rintro e w' ⟨rfl, rfl⟩
  go_wp2_with fail
  refine h2.mono ?_
  rintro e w2 ⟨rfl, hb2⟩
  have hb2' := hb1.trans (hb2.mono hb1.size)
  have h3 := hm.c w2 hb2'
  go_wp2_with fail
  refine h3.mono ?_
  rintro e w3 ⟨rfl, hb3⟩
  have hb3' := hb2'.trans (hb3.mono hb2'.size)
  have h4 := hm.d w3 hb3'
  go_wp2_with fail
  refine h4.mono ?_
  rintro e w' ⟨rfl, rfl⟩
  go_wp2
  go_ret
  exact ⟨by simp, hb3'⟩
end Go.Proofs.YtccomiigdpfbpaaDoor
