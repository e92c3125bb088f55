/-
  The contracts of the lexer's baseOf, value and number. Conditions: the slice's bytes lie in the memory; it is of at most 65536 bytes; number: it has a byte.
-/
import Derived.Test.YtbhfblogjlpnlaaDoorIxRun
import Derived.Test.YtbhfblogjlpnlaaDoorRxTokC
import Derived.Laws.IdiomStrings
namespace Go.Proofs.YtbhfblogjlpnlaaDoor
open Go.RowKit

/-- The string of the bytes that lie in the memory. -/
theorem conv_bytes {w : World} {b o : Nat} {s : ByteArray} (h : Bytes w b o s) (i n cap : Nat) (hn : i + n ≤ s.size) :
    (convert 22 9 (.slice (some ⟨b, o + i, none⟩) n cap)).run Tryd.prog w = .ok (.string (s.extract i (i + n))) w := by
  have hlen : (s.extract i (i + n)).data.toList.length = n := by simp; omega
  have hcv := run_convert_bytes_back (P := Tryd.prog) w 22 9 5 ⟨b, o + i, none⟩ cap (s.extract i (i + n)).data.toList Tryd.underlying22 Tryd.underlying5 Tryd.underlying9
    (fun j hj => by
      have hplain : (⟨b, o + i, none⟩ : Addr).add j = ⟨b, o + i + j, none⟩ := by unfold Addr.add; split <;> simp_all
      rw [hlen] at hj
      have hx : (s.extract i (i + n)).data.toList[j] = s[i + j]'(by omega) := by
        simp [ByteArray.data_extract]
        rfl
      rw [hplain, Nat.add_assoc, h.cell (i + j) (by omega), hx])
  rw [hlen] at hcv
  exact hcv

set_option maxRecDepth 100000 in
set_option maxHeartbeats 1000000 in
/-- bytes.HasPrefix at two bytes of the call's own. -/
theorem has_two (s : ByteArray) (A : Option Addr) (c : Nat) (x y : UInt8) (g : Nat) (w : World) (hs : s.size ≤ 65536) (hc : s.size ≤ c) (hh : Holds w A s) (hg : g < w.heap.size) (h0 : w.cell? ⟨g, 0, none⟩ = some (.int .u8 (x.toNat : Int))) (h1 : w.cell? ⟨g, 1, none⟩ = some (.int .u8 (y.toNat : Int))) :
    Calls Tryd.prog 107 #[.slice A s.size c, .slice (some ⟨g, 0, none⟩) 2 2] w fun e w' => e = .returned (.bool (decide (s.data.toList.take 2 = [x, y]))) ∧ w = w' := by
  have hB2 : Bytes w g 0 ⟨#[x, y]⟩ := ⟨hg, fun j hj => by
    have : j = 0 ∨ j = 1 := by
      have : (⟨#[x, y]⟩ : ByteArray).size = 2 := rfl
      omega
    rcases this with rfl | rfl
    · exact h0
    · exact h1⟩
  have hcv2 := conv_bytes hB2 0 2 2 (Nat.le_refl _)
  have he2 : (⟨#[x, y]⟩ : ByteArray).extract 0 (0 + 2) = ⟨#[x, y]⟩ := ba_eq (by rw [ext_list]; rfl)
  rw [he2] at hcv2
  clear h0 h1 hB2
  by_cases hn : 2 ≤ s.size
  · obtain ⟨b, o, rfl, hB⟩ := hh.resolve_left (by omega)
    have hcv := conv_bytes hB 0 2 c (by omega)
    rw [Nat.zero_add, Nat.add_zero] at hcv
    have hni : (2 : Int) ≤ s.size := by omega
    have hq : ((s.extract 0 2).toList == [x, y]) = decide (s.data.toList.take 2 = [x, y]) := by rw [str_list, ext_take]
    have HQ := Lib.hid hq
    clear hq hB hh
    go_enter Tryd.func107, Tryd.ntmps107
    go_wp2
    go_ret
    exact ⟨congrArg (fun b => Ending.returned (.bool b)) HQ.out, rfl⟩
  · have hni : ¬ (2 : Int) ≤ s.size := by omega
    have HQ : Hid (decide (s.data.toList.take 2 = [x, y]) = false) := Lib.hid (decide_eq_false (fun h => hn (by
      have := congrArg List.length h
      rw [List.length_take, len_size] at this
      simp only [List.length_cons, List.length_nil] at this
      omega)))
    clear hcv2 hh
    go_enter Tryd.func107, Tryd.ntmps107
    go_wp2
    go_ret
    exact ⟨congrArg (fun b => Ending.returned (.bool b)) HQ.out.symm, rfl⟩

set_option maxRecDepth 100000 in
set_option maxHeartbeats 1000000 in
/-- baseOf: the base, and how many bytes tell it. -/
theorem baseOf_any (s : ByteArray) (A : Option Addr) (c : Nat) (w : World) (hs : s.size ≤ 65536) (hc : s.size ≤ c) (hh : Holds w A s) :
    Calls Tryd.prog 97 #[.slice A s.size c] w fun e w' => e = .returned (.tuple #[.int .u32 ((baseOf s.data.toList).1 : Nat), .int .i64 ((baseOf s.data.toList).2 : Nat)]) ∧ Below w.heap.size w w' := by
  have hx := fun W g (hW : Below w.heap.size w W) hg h0 h1 => has_two s A c 48 120 g W hs hc (hh.below hW) hg h0 h1
  have hb := fun W g (hW : Below w.heap.size w W) hg h0 h1 => has_two s A c 48 98 g W hs hc (hh.below hW) hg h0 h1
  unfold baseOf
  by_cases h16 : s.data.toList.take 2 = [48, 120]
  · rw [if_pos h16]
    rw [decide_eq_true h16] at hx
    have HX := Lib.hid hx
    clear hx hb h16 hh
    go_enter Tryd.func97, Tryd.ntmps97
    go_wp2_with (first | (go_at_call 107; refine (HX.out _ _ ((Below.refl _ _).alloc (Nat.le_refl _) _) (by simp) (by simp) (by simp)).mono ?_; rintro e w' ⟨rfl, rfl⟩))
    go_ret2
    exact ⟨rfl, (Below.refl _ _).alloc (Nat.le_refl _) _⟩
  · rw [if_neg h16]
    rw [decide_eq_false h16] at hx
    by_cases h2 : s.data.toList.take 2 = [48, 98]
    · rw [if_pos h2]
      rw [decide_eq_true h2] at hb
      have HX := Lib.hid hx
      have HB := Lib.hid hb
      clear hx hb h16 hh h2
      go_enter Tryd.func97, Tryd.ntmps97
      go_wp2_with fail
      refine (HX.out _ _ ((Below.refl _ _).alloc (Nat.le_refl _) _) (by simp) (by simp) (by simp)).mono ?_
      rintro e w' ⟨rfl, rfl⟩
      go_wp2_with fail
      refine (HB.out _ _ (((Below.refl _ _).alloc (Nat.le_refl _) _).alloc (by simp) _) (by simp) (by simp) (by simp)).mono ?_
      rintro e w' ⟨rfl, rfl⟩
      go_wp2_with fail
      go_ret2
      exact ⟨rfl, ((Below.refl _ _).alloc (Nat.le_refl _) _).alloc (by simp) _⟩
    · rw [if_neg h2]
      rw [decide_eq_false h2] at hb
      have HX := Lib.hid hx
      have HB := Lib.hid hb
      clear hx hb h16 hh h2
      go_enter Tryd.func97, Tryd.ntmps97
      go_wp2_with fail
      refine (HX.out _ _ ((Below.refl _ _).alloc (Nat.le_refl _) _) (by simp) (by simp) (by simp)).mono ?_
      rintro e w' ⟨rfl, rfl⟩
      go_wp2_with fail
      refine (HB.out _ _ (((Below.refl _ _).alloc (Nat.le_refl _) _).alloc (by simp) _) (by simp) (by simp) (by simp)).mono ?_
      rintro e w' ⟨rfl, rfl⟩
      go_wp2_with fail
      go_ret2
      exact ⟨rfl, ((Below.refl _ _).alloc (Nat.le_refl _) _).alloc (by simp) _⟩

theorem digV_le (c : UInt8) : digV c ≤ 99 := all_bytes (p := fun c => digV c ≤ 99) (by decide +kernel) c

/-- What value answers. -/
def ValOut (V : Nat) (e : Ending) : Prop := V < 4294967296 ∧ e = .returned (.tuple #[.int .u32 (V : Int), .bool true]) ∨ 4294967296 ≤ V ∧ e = .returned (.tuple #[.int .u32 0, .bool false])

set_option maxRecDepth 100000 in
set_option maxHeartbeats 1000000 in
theorem value_16 (s : ByteArray) (A : Option Addr) (c : Nat) (w : World) (hs : s.size ≤ 65536) (hh : Holds w A s) :
    Calls Tryd.prog 100 #[.slice A s.size c, .int .u32 16] w fun e w' => ValOut (valF 16 s.data.toList 0) e ∧ w = w' := by
  have HH := Lib.hid hh
  clear hh
  go_enter Tryd.func100, Tryd.ntmps100
  go_wp2
  go_loopg [6, 8, 11] s.size (fun g v _ i wr => ∃ (k : Nat) (X : Int), k + g = s.size ∧ i = .int .i64 k ∧ v = .int .u64 X ∧ 0 ≤ X ∧ X < 4294967296 ∧ Hid (X = (valF 16 (s.data.toList.take k) 0 : Nat)) ∧ wr = w)
  case atStart => exact ⟨0, 0, by omega, rfl, rfl, by omega, by omega, Lib.hid rfl, rfl⟩
  case round =>
    obtain ⟨k, X, hk, rfl, rfl, hx0, hx1, hv, hwr⟩ := hrel
    subst hwr
    have HK := Lib.hid hk
    have hk' : k ≤ s.size := by omega
    clear hk
    by_cases hkn : k < s.size
    · obtain ⟨b, o, rfl, hB⟩ := HH.out.resolve_left (by omega)
      have hck := hB.cell k hkn
      clear hB
      have hdg := fun W => digit_any (s[k]'hkn) W
      have hone := List.take_succ_eq_append_getElem (l := s.data.toList) (i := k) (by rw [len_size]; exact hkn)
      have hat : s.data.toList[k]'(by rw [len_size]; exact hkn) = s[k]'hkn := rfl
      rw [hat] at hone
      have HVN : Hid (((valF 16 (s.data.toList.take (k + 1)) 0 : Nat) : Int) = X * 16 + (digV (s[k]'hkn) : Int)) := Lib.hid (by rw [hone, valF_append, hv.out]; exact Int.natCast_add _ _)
      have y0 : (0 : Int) ≤ (digV (s[k]'hkn) : Int) := by omega
      have y1 : (digV (s[k]'hkn) : Int) < 100 := by have := digV_le (s[k]'hkn); omega
      clear hone hat
      generalize (digV (s[k]'hkn) : Int) = D at *
      by_cases hov : (4294967296 : Int) ≤ X * 16 + D
      · have HR : Hid (4294967296 ≤ valF 16 s.data.toList 0) := Lib.hid (by
          have h1 := slice_part s.data.toList 0 (k + 1) s.size (by omega) (by omega) (by rw [len_size]; omega)
          rw [List.drop_zero, List.drop_zero, List.take_of_length_le (by rw [len_size]; omega)] at h1
          rw [h1, valF_append]
          have h2 := valF_le 16 (by omega) (s.data.toList.drop (k + 1)) (valF 16 (s.data.toList.take (k + 1)) 0)
          have h3 := HVN.out
          omega)
        go_wp2_with (go_at_call 99; refine (hdg _).mono ?_; rintro e w' ⟨rfl, rfl⟩)
        go_ret2
        exact ⟨.inr ⟨HR.out, rfl⟩, rfl⟩
      · have hov2 : X * 16 + D < 4294967296 := by omega
        clear hov
        go_wp2_with (go_at_call 99; refine (hdg _).mono ?_; rintro e w' ⟨rfl, rfl⟩)
        go_roundg (gk - 1)
        case measure => have := HK.out; omega
        case rel => exact ⟨k + 1, X * 16 + D, by have := HK.out; omega, by go_num, rfl, by omega, hov2, Lib.hid (HVN.out).symm, rfl⟩
    · obtain rfl : k = s.size := by omega
      have HR : Hid (valF 16 s.data.toList 0 < 4294967296 ∧ X = ((valF 16 s.data.toList 0 : Nat) : Int)) := Lib.hid (by
        have h := hv.out
        rw [List.take_of_length_le (by rw [len_size]; omega)] at h
        exact ⟨by omega, h⟩)
      clear hkn
      go_wp2_with fail
      go_ret2
      exact ⟨.inl ⟨HR.out.1, by rw [← HR.out.2]; go_num⟩, rfl⟩

set_option maxRecDepth 100000 in
set_option maxHeartbeats 1000000 in
theorem value_2 (s : ByteArray) (A : Option Addr) (c : Nat) (w : World) (hs : s.size ≤ 65536) (hh : Holds w A s) :
    Calls Tryd.prog 100 #[.slice A s.size c, .int .u32 2] w fun e w' => ValOut (valF 2 s.data.toList 0) e ∧ w = w' := by
  have HH := Lib.hid hh
  clear hh
  go_enter Tryd.func100, Tryd.ntmps100
  go_wp2
  go_loopg [6, 8, 11] s.size (fun g v _ i wr => ∃ (k : Nat) (X : Int), k + g = s.size ∧ i = .int .i64 k ∧ v = .int .u64 X ∧ 0 ≤ X ∧ X < 4294967296 ∧ Hid (X = (valF 2 (s.data.toList.take k) 0 : Nat)) ∧ wr = w)
  case atStart => exact ⟨0, 0, by omega, rfl, rfl, by omega, by omega, Lib.hid rfl, rfl⟩
  case round =>
    obtain ⟨k, X, hk, rfl, rfl, hx0, hx1, hv, hwr⟩ := hrel
    subst hwr
    have HK := Lib.hid hk
    have hk' : k ≤ s.size := by omega
    clear hk
    by_cases hkn : k < s.size
    · obtain ⟨b, o, rfl, hB⟩ := HH.out.resolve_left (by omega)
      have hck := hB.cell k hkn
      clear hB
      have hdg := fun W => digit_any (s[k]'hkn) W
      have hone := List.take_succ_eq_append_getElem (l := s.data.toList) (i := k) (by rw [len_size]; exact hkn)
      have hat : s.data.toList[k]'(by rw [len_size]; exact hkn) = s[k]'hkn := rfl
      rw [hat] at hone
      have HVN : Hid (((valF 2 (s.data.toList.take (k + 1)) 0 : Nat) : Int) = X * 2 + (digV (s[k]'hkn) : Int)) := Lib.hid (by rw [hone, valF_append, hv.out]; exact Int.natCast_add _ _)
      have y0 : (0 : Int) ≤ (digV (s[k]'hkn) : Int) := by omega
      have y1 : (digV (s[k]'hkn) : Int) < 100 := by have := digV_le (s[k]'hkn); omega
      clear hone hat
      generalize (digV (s[k]'hkn) : Int) = D at *
      by_cases hov : (4294967296 : Int) ≤ X * 2 + D
      · have HR : Hid (4294967296 ≤ valF 2 s.data.toList 0) := Lib.hid (by
          have h1 := slice_part s.data.toList 0 (k + 1) s.size (by omega) (by omega) (by rw [len_size]; omega)
          rw [List.drop_zero, List.drop_zero, List.take_of_length_le (by rw [len_size]; omega)] at h1
          rw [h1, valF_append]
          have h2 := valF_le 2 (by omega) (s.data.toList.drop (k + 1)) (valF 2 (s.data.toList.take (k + 1)) 0)
          have h3 := HVN.out
          omega)
        go_wp2_with (go_at_call 99; refine (hdg _).mono ?_; rintro e w' ⟨rfl, rfl⟩)
        go_ret2
        exact ⟨.inr ⟨HR.out, rfl⟩, rfl⟩
      · have hov2 : X * 2 + D < 4294967296 := by omega
        clear hov
        go_wp2_with (go_at_call 99; refine (hdg _).mono ?_; rintro e w' ⟨rfl, rfl⟩)
        go_roundg (gk - 1)
        case measure => have := HK.out; omega
        case rel => exact ⟨k + 1, X * 2 + D, by have := HK.out; omega, by go_num, rfl, by omega, hov2, Lib.hid (HVN.out).symm, rfl⟩
    · obtain rfl : k = s.size := by omega
      have HR : Hid (valF 2 s.data.toList 0 < 4294967296 ∧ X = ((valF 2 s.data.toList 0 : Nat) : Int)) := Lib.hid (by
        have h := hv.out
        rw [List.take_of_length_le (by rw [len_size]; omega)] at h
        exact ⟨by omega, h⟩)
      clear hkn
      go_wp2_with fail
      go_ret2
      exact ⟨.inl ⟨HR.out.1, by rw [← HR.out.2]; go_num⟩, rfl⟩

set_option maxRecDepth 100000 in
set_option maxHeartbeats 1000000 in
theorem value_10 (s : ByteArray) (A : Option Addr) (c : Nat) (w : World) (hs : s.size ≤ 65536) (hh : Holds w A s) :
    Calls Tryd.prog 100 #[.slice A s.size c, .int .u32 10] w fun e w' => ValOut (valF 10 s.data.toList 0) e ∧ w = w' := by
  have HH := Lib.hid hh
  clear hh
  go_enter Tryd.func100, Tryd.ntmps100
  go_wp2
  go_loopg [6, 8, 11] s.size (fun g v _ i wr => ∃ (k : Nat) (X : Int), k + g = s.size ∧ i = .int .i64 k ∧ v = .int .u64 X ∧ 0 ≤ X ∧ X < 4294967296 ∧ Hid (X = (valF 10 (s.data.toList.take k) 0 : Nat)) ∧ wr = w)
  case atStart => exact ⟨0, 0, by omega, rfl, rfl, by omega, by omega, Lib.hid rfl, rfl⟩
  case round =>
    obtain ⟨k, X, hk, rfl, rfl, hx0, hx1, hv, hwr⟩ := hrel
    subst hwr
    have HK := Lib.hid hk
    have hk' : k ≤ s.size := by omega
    clear hk
    by_cases hkn : k < s.size
    · obtain ⟨b, o, rfl, hB⟩ := HH.out.resolve_left (by omega)
      have hck := hB.cell k hkn
      clear hB
      have hdg := fun W => digit_any (s[k]'hkn) W
      have hone := List.take_succ_eq_append_getElem (l := s.data.toList) (i := k) (by rw [len_size]; exact hkn)
      have hat : s.data.toList[k]'(by rw [len_size]; exact hkn) = s[k]'hkn := rfl
      rw [hat] at hone
      have HVN : Hid (((valF 10 (s.data.toList.take (k + 1)) 0 : Nat) : Int) = X * 10 + (digV (s[k]'hkn) : Int)) := Lib.hid (by rw [hone, valF_append, hv.out]; exact Int.natCast_add _ _)
      have y0 : (0 : Int) ≤ (digV (s[k]'hkn) : Int) := by omega
      have y1 : (digV (s[k]'hkn) : Int) < 100 := by have := digV_le (s[k]'hkn); omega
      clear hone hat
      generalize (digV (s[k]'hkn) : Int) = D at *
      by_cases hov : (4294967296 : Int) ≤ X * 10 + D
      · have HR : Hid (4294967296 ≤ valF 10 s.data.toList 0) := Lib.hid (by
          have h1 := slice_part s.data.toList 0 (k + 1) s.size (by omega) (by omega) (by rw [len_size]; omega)
          rw [List.drop_zero, List.drop_zero, List.take_of_length_le (by rw [len_size]; omega)] at h1
          rw [h1, valF_append]
          have h2 := valF_le 10 (by omega) (s.data.toList.drop (k + 1)) (valF 10 (s.data.toList.take (k + 1)) 0)
          have h3 := HVN.out
          omega)
        go_wp2_with (go_at_call 99; refine (hdg _).mono ?_; rintro e w' ⟨rfl, rfl⟩)
        go_ret2
        exact ⟨.inr ⟨HR.out, rfl⟩, rfl⟩
      · have hov2 : X * 10 + D < 4294967296 := by omega
        clear hov
        go_wp2_with (go_at_call 99; refine (hdg _).mono ?_; rintro e w' ⟨rfl, rfl⟩)
        go_roundg (gk - 1)
        case measure => have := HK.out; omega
        case rel => exact ⟨k + 1, X * 10 + D, by have := HK.out; omega, by go_num, rfl, by omega, hov2, Lib.hid (HVN.out).symm, rfl⟩
    · obtain rfl : k = s.size := by omega
      have HR : Hid (valF 10 s.data.toList 0 < 4294967296 ∧ X = ((valF 10 s.data.toList 0 : Nat) : Int)) := Lib.hid (by
        have h := hv.out
        rw [List.take_of_length_le (by rw [len_size]; omega)] at h
        exact ⟨by omega, h⟩)
      clear hkn
      go_wp2_with fail
      go_ret2
      exact ⟨.inl ⟨HR.out.1, by rw [← HR.out.2]; go_num⟩, rfl⟩
end Go.Proofs.YtbhfblogjlpnlaaDoor
