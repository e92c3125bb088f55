/-
  The contracts of the reference lexer's in and while: a byte is among some; how many of the bytes at the beginning are among some. Condition: the strings' lengths are within the model's bound.
-/
import Derived.Test.YtbhfblogjlpnlaaDoorProg
import Derived.WalkKit
import Derived.Below
import Derived.Lib.Hide
namespace Go.Proofs.YtbhfblogjlpnlaaDoor
open Go.RowKit

/-- Is a byte among some? -/
def inSet (c : UInt8) (s : ByteArray) : Bool := s.data.toList.contains c
/-- How many of the bytes at the beginning are among some. -/
def run (l : List UInt8) (set : ByteArray) : Nat := (l.takeWhile fun c => inSet c set).length

theorem run_le (l : List UInt8) (set : ByteArray) : run l set ≤ l.length := by
  unfold run; exact (List.takeWhile_prefix _).length_le

theorem contains_take_succ (s : ByteArray) (c : UInt8) (k : Nat) (h : k < s.size) (h0 : (s.data.toList.take k).contains c = false) (hne : ¬ (s[k].toNat : Int) = c.toNat) : (s.data.toList.take (k + 1)).contains c = false := by
  rw [List.take_succ_eq_append_getElem (by simpa using h)]
  rw [List.contains_eq_any_beq] at h0 ⊢
  rw [List.any_append, h0]
  simp
  intro e
  apply hne
  show ((s.data[k]).toNat : Int) = _
  rw [← e]

theorem contains_at (s : ByteArray) (c : UInt8) (k : Nat) (h : k < s.size) (he : (s[k].toNat : Int) = c.toNat) : s.data.toList.contains c = true := by
  have e : s[k] = c := UInt8.toNat_inj.1 (by omega)
  rw [List.contains_iff_mem]
  have : s[k] ∈ s.data.toList := by
    have : s[k] = s.data.toList[k]'(by simpa using h) := rfl
    rw [this]; exact List.getElem_mem _
  rwa [e] at this

set_option maxHeartbeats 400000 in
theorem in_any (c : UInt8) (s : ByteArray) (w : World) (hs : s.size ≤ maxLen) :
    Calls Tryd.prog 37 #[.int .u8 c.toNat, .string s] w fun e w' => e = .returned (.bool (inSet c s)) ∧ w = w' := by
  unfold maxLen at hs
  have hc := c.toNat_lt
  go_enter Tryd.func37, Tryd.ntmps37
  go_wp2
  go_loop [5] (fun i => ∃ k : Nat, k ≤ s.size ∧ i = .int .i64 k ∧ Hid ((s.data.toList.take k).contains c = false)) (fun i => s.size - (intOf i).toNat)
  case atStart => exact ⟨0, Nat.zero_le _, rfl, by simp [Hid]⟩
  case round =>
    obtain ⟨k, hk, rfl, H⟩ := hrel
    by_cases hlt : k < s.size
    · by_cases heq : (s[k].toNat : Int) = c.toNat
      · have hb : ((s[k].toNat : Int) == (c.toNat : Int)) = true := by simpa using heq
        have H2 : Hid (inSet c s = true) := contains_at s c k hlt heq
        clear heq
        go_wp2
        go_ret
        exact ⟨by rw [H2.out]; rfl, rfl⟩
      · have hb : ((s[k].toNat : Int) == (c.toNat : Int)) = false := by simpa using heq
        have H2 : Hid ((s.data.toList.take (k + 1)).contains c = false) := contains_take_succ s c k hlt H.out heq
        clear heq
        go_wp2
        go_round
        case rel => exact ⟨k + 1, by omega, by go_num, H2⟩
        case measure => simp [intOf]; omega
    · have H2 : Hid (inSet c s = false) := by
        have h := H.out
        rwa [List.take_of_length_le (by simp; omega)] at h
      go_wp2
      go_ret
      exact ⟨by rw [H2.out]; rfl, rfl⟩

theorem takeWhile_all {α : Type} (p : α → Bool) : ∀ (l : List α) (k : Nat), (∀ j (h : j < l.length), j < k → p l[j] = true) → (∀ (h : k < l.length), p l[k] = false) → k ≤ l.length → (l.takeWhile p).length = k
  | [], k, _, _, hk => by simp at hk; simp [hk]
  | a :: l, 0, _, h2, _ => by
    have := h2 (by simp)
    simp at this
    simp [this]
  | a :: l, k + 1, h1, h2, hk => by
    have h0 := h1 0 (by simp) (by omega)
    simp at h0
    have := takeWhile_all p l k (fun j h hj => h1 (j + 1) (by simpa using h) (by omega)) (fun h => h2 (by simpa using h)) (by simpa using hk)
    simp [h0, this]

/-- The first k bytes are among some. -/
def allIn (s : ByteArray) (set : ByteArray) (k : Nat) : Prop := ∀ j (_ : j < s.data.toList.length), j < k → inSet s.data.toList[j] set = true

set_option maxHeartbeats 400000 in
theorem while_any (s set : ByteArray) (w : World) (hs : s.size ≤ maxLen) (hset : set.size ≤ maxLen) :
    Calls Tryd.prog 57 #[.string s, .string set] w fun e w' => e = .returned (.int .i64 (run s.data.toList set)) ∧ w = w' := by
  unfold maxLen at hs
  go_enter Tryd.func57, Tryd.ntmps57
  go_wp2
  go_loop [5] (fun i => ∃ k : Nat, k ≤ s.size ∧ i = .int .i64 k ∧ allIn s set k) (fun i => s.size - (intOf i).toNat)
  case atStart => exact ⟨0, Nat.zero_le _, rfl, fun j _ hj => absurd hj (by omega)⟩
  case round =>
    obtain ⟨k, hk, rfl, H⟩ := hrel
    have HH := Lib.hid H
    clear H
    by_cases hlt : k < s.size
    · have hin := in_any s[k] set w hset
      have hll : k < s.data.toList.length := by simpa using hlt
      by_cases hi : inSet s[k] set = true
      · have H2 : Hid (allIn s set (k + 1)) := fun j hj hjk => by
          rcases Nat.lt_or_ge j k with h | h
          · exact HH.out j hj h
          · have : j = k := by omega
            subst this; exact hi
        rw [hi] at hin
        clear hi
        go_wp2_with (go_at_call 37; refine hin.mono ?_; rintro e w' ⟨rfl, rfl⟩)
        go_round
        case rel => exact ⟨k + 1, by omega, by go_num, H2⟩
        case measure => simp [intOf]; omega
      · have hi' : inSet s[k] set = false := by simpa using hi
        have H2 : Hid (run s.data.toList set = k) := takeWhile_all _ _ _ HH.out (fun h => hi') (by simp; omega)
        rw [hi'] at hin
        clear hi hi'
        go_wp2_with (go_at_call 37; refine hin.mono ?_; rintro e w' ⟨rfl, rfl⟩)
        go_ret
        exact ⟨by rw [H2.out]; rfl, rfl⟩
    · have H2 : Hid (run s.data.toList set = k) := takeWhile_all _ _ _ HH.out (fun h => absurd h (by simp; omega)) (by simp; omega)
      go_wp2
      go_ret
      exact ⟨by rw [H2.out]; rfl, rfl⟩
end Go.Proofs.YtbhfblogjlpnlaaDoor
