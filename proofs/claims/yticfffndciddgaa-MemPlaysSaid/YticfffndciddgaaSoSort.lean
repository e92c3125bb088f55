/-
  The contract of slices.Sort at uint32: the row rises, and holds what it held. Condition: the row lies in the memory as SoBase says, or the slice is nil.
-/
import Derived.Test.YticfffndciddgaaSoPdq
namespace Go.Proofs.Yticfffndciddgaa
open Go.RowKit Go.Sort

theorem len_of (n : Nat) (hn : n < 4611686018427387904) (w : World) : Calls Try.prog 35 #[.int .u64 n] w fun e w' => e = .returned (.int .i64 (Lib.bitLen n)) ∧ w' = w := by
  have h := Any.bits_Len Try.laysLen (n : Int) w (by omega) (by omega)
  rwa [Int.toNat_natCast] at h

set_option maxRecDepth 100000 in
set_option maxHeartbeats 2000000 in
theorem sort_is {B g o : Nat} {w0 w : World} {d : Array Int} (h : Srt B w0 g o d w) (cap : Nat) (hsz : d.size < 4611686018427387904) :
    Calls Try.prog 30 #[.slice (some ⟨g, o, none⟩) d.size cap] w fun e w' =>
      e = .returned (.tuple #[]) ∧ ∃ d', PermIn 0 d.size d d' ∧ SortedIn ltInt 0 d.size d' ∧ Srt B w0 g o d' w' := by
  have hc := fun lim => pdq_is (w0 := w0) cap d.size 0 d.size lim d w (by omega) h (Nat.zero_le _) (Nat.le_refl _) (.inl rfl) hsz
  have HC := Lib.hid hc
  have HL := Lib.hid (len_of d.size hsz)
  clear hc
  go_enter Try.func30, Try.ntmps30
  go_wp2_with fail
  refine (HL.out _).mono ?_
  rintro e w1 ⟨rfl, rfl⟩
  go_wp2_with fail
  refine (HC.out _).mono ?_
  rintro e w2 ⟨rfl, d', p1, p2, p3⟩
  go_wp2_with fail
  go_end0
  exact ⟨rfl, d', p1, p2, p3⟩

set_option maxRecDepth 100000 in
set_option maxHeartbeats 2000000 in
theorem sort_nil (w : World) : Calls Try.prog 30 #[.slice none 0 0] w fun e w' => e = .returned (.tuple #[]) ∧ w' = w := by
  have HL := Lib.hid (len_of 0 (by omega))
  have hI : ∀ W, Calls Try.prog 36 #[.slice none 0 0, .int .i64 0, .int .i64 0] W fun e w' => e = .returned (.tuple #[]) ∧ w' = W := fun W => by
    go_enter Try.func36, Try.ntmps36
    go_wp2
    go_loopg [6] 1 (fun k vi wr => vi = .int .i64 1 ∧ wr = W)
    case atStart => exact ⟨rfl, rfl⟩
    case round =>
      obtain ⟨rfl, rfl⟩ := hrel
      go_wp2
      go_end0
      exact ⟨rfl, rfl⟩
  have HI := Lib.hid hI
  clear hI
  have hP : ∀ lim W, Calls Try.prog 34 #[.slice none 0 0, .int .i64 0, .int .i64 0, .int .i64 lim] W fun e w' => e = .returned (.tuple #[]) ∧ w' = W := fun lim W => by
    go_enter Try.func34, Try.ntmps34
    go_upto_block 0 with fail
    refine wp_block ?_
    go_loopg [1, 2, 3, 8, 9] 1 (fun k va vb vl vw vp wr => va = .int .i64 0 ∧ vb = .int .i64 0 ∧ wr = W)
    case atStart => exact ⟨rfl, rfl, rfl⟩
    case round =>
      obtain ⟨rfl, rfl, rfl⟩ := hrel
      go_wp2_with (go_at_call 36; refine (HI.out _).mono ?_; rintro e w' ⟨rfl, rfl⟩)
      refine bodyPost_ret (results_none rfl _ _ _) rfl ?_
      exact ⟨rfl, rfl⟩
  have HP := Lib.hid hP
  clear hP
  go_enter Try.func30, Try.ntmps30
  go_wp2_with fail
  refine (HL.out _).mono ?_
  rintro e w1 ⟨rfl, rfl⟩
  go_wp2_with fail
  refine (HP.out _ _).mono ?_
  rintro e w2 ⟨rfl, rfl⟩
  go_wp2_with fail
  go_end0
  exact ⟨rfl, rfl⟩
end Go.Proofs.Yticfffndciddgaa
