/-
  The contract of the lexer's token. Conditions: the slice's bytes lie in the memory; it has a byte, and at most 65536.
-/
import Derived.Test.YtbhfblogjlpnlaaDoorIxFunc
import Derived.Test.YtbhfblogjlpnlaaDoorIxPlain
import Derived.Test.YtbhfblogjlpnlaaDoorIxText
namespace Go.Proofs.YtbhfblogjlpnlaaDoor
open Go.RowKit

theorem tok_form {w0 w' : World} {r : Tk} {e : Ending} (h : ITok w0 r e w') : ∃ (k v n : Int) (t : ByteArray) (E : Value), e = .returned (.tuple #[.agg #[.int .i64 k, .int .i64 0, .int .i64 0, .string t, .int .u32 v, .int .i64 0], .int .i64 n, E]) := by
  cases r with
  | ok k t v n => exact ⟨k, v, n, ba t, _, h.1⟩
  | bad c => exact ⟨0, 0, 0, _, _, h.1⟩

theorem drop_zero_at (s : ByteArray) (h0 : 0 < s.size) : s.data.toList = (s[0]'h0) :: s.data.toList.drop 1 := by
  have := drop_at s 0 h0
  rwa [List.drop_zero] at this
theorem one_byte (s : ByteArray) (h0 : 0 < s.size) : s.extract 0 (0 + 1) = ba [(s[0]'h0)] := ba_eq (by rw [ext_take, ba_list, drop_zero_at s h0]; rfl)
theorem two_bytes (s : ByteArray) (h1 : 1 < s.size) : s.extract 0 (0 + 2) = ba [(s[0]'(Nat.lt_trans Nat.zero_lt_one h1)), (s[1]'h1)] := ba_eq (by
  have h2 := drop_at s 1 h1
  rw [ext_take, ba_list, drop_zero_at s (Nat.lt_trans Nat.zero_lt_one h1), h2]
  rfl)

section
variable (s : ByteArray) (b o c : Nat) (w : World) (hs : s.size ≤ 65536) (h0 : 0 < s.size) (hc : s.size ≤ c) (hB : Bytes w b o s)
include hs h0 hc hB

set_option maxRecDepth 100000 in
set_option maxHeartbeats 1000000 in
omit hs hc in
theorem tk_local (hx : (s[0]'h0) = 64) (R : Tk) (HN : Hid (Calls Tryd.prog 52 #[.int .i64 2, .slice (some ⟨b, o, none⟩) s.size c] (w.alloc zerosI) (ITok (w.alloc zerosI) R))) : Calls Tryd.prog 36 #[.slice (some ⟨b, o, none⟩) s.size c] w (ITok w R) := by
  have h0i : (0 : Int) < s.size := by omega
  have hck0 := hB.cell 0 h0
  rw [Nat.add_zero, hx] at hck0
  have hblt := hB.lt
  change w.cell? ⟨b, o, none⟩ = some (.int .u8 64) at hck0
  clear hB hx
  go_enter Tryd.func36, Tryd.ntmps36
  go_wp2_with fail
  refine HN.out.mono ?_
  rintro e w1 h
  obtain ⟨kd, vv, n, tx, E, rfl⟩ := tok_form h
  obtain ⟨hT, hb1⟩ := h
  have HT := Lib.hid hT
  clear hT
  rw [World.size_alloc] at hb1
  obtain ⟨f0, f1, f2, f3, f4, f5, z0, z1, z2, z3, z4, z5⟩ := tokAt hb1
  have HW1 := Lib.hid (below_of_tok hb1)
  have hsz1 : w.heap.size < w1.heap.size := by have := hb1.size; simp at this; omega
  clear hb1
  go_wp2_with fail
  exact bodyPost_ret (v := .tuple #[.agg #[.int .i64 kd, .int .i64 0, .int .i64 0, .string tx, .int .u32 vv, .int .i64 0], .int .i64 n, E]) (by simp [results, Tryd.results36, go_sem, f0, f1, f2, f3, f4, f5]; done) rfl ⟨HT.out, ((((((HW1.out.setCell (by simp) _).setCell (by simp) _).setCell (by simp) _).setCell (by simp) _).setCell (by simp) _).setCell (by simp) _)⟩

set_option maxRecDepth 100000 in
set_option maxHeartbeats 1000000 in
omit hs hc in
theorem tk_param (hx : (s[0]'h0) = 92) (R : Tk) (HN : Hid (Calls Tryd.prog 52 #[.int .i64 3, .slice (some ⟨b, o, none⟩) s.size c] (w.alloc zerosI) (ITok (w.alloc zerosI) R))) : Calls Tryd.prog 36 #[.slice (some ⟨b, o, none⟩) s.size c] w (ITok w R) := by
  have h0i : (0 : Int) < s.size := by omega
  have hck0 := hB.cell 0 h0
  rw [Nat.add_zero, hx] at hck0
  have hblt := hB.lt
  change w.cell? ⟨b, o, none⟩ = some (.int .u8 92) at hck0
  clear hB hx
  go_enter Tryd.func36, Tryd.ntmps36
  go_wp2_with fail
  refine HN.out.mono ?_
  rintro e w1 h
  obtain ⟨kd, vv, n, tx, E, rfl⟩ := tok_form h
  obtain ⟨hT, hb1⟩ := h
  have HT := Lib.hid hT
  clear hT
  rw [World.size_alloc] at hb1
  obtain ⟨f0, f1, f2, f3, f4, f5, z0, z1, z2, z3, z4, z5⟩ := tokAt hb1
  have HW1 := Lib.hid (below_of_tok hb1)
  have hsz1 : w.heap.size < w1.heap.size := by have := hb1.size; simp at this; omega
  clear hb1
  go_wp2_with fail
  exact bodyPost_ret (v := .tuple #[.agg #[.int .i64 kd, .int .i64 0, .int .i64 0, .string tx, .int .u32 vv, .int .i64 0], .int .i64 n, E]) (by simp [results, Tryd.results36, go_sem, f0, f1, f2, f3, f4, f5]; done) rfl ⟨HT.out, ((((((HW1.out.setCell (by simp) _).setCell (by simp) _).setCell (by simp) _).setCell (by simp) _).setCell (by simp) _).setCell (by simp) _)⟩

set_option maxRecDepth 100000 in
set_option maxHeartbeats 1000000 in
omit hs hc in
theorem tk_func (hx : (s[0]'h0) = 37) (R : Tk) (HN : Hid (Calls Tryd.prog 53 #[.slice (some ⟨b, o, none⟩) s.size c] (w.alloc zerosI) (ITok (w.alloc zerosI) R))) : Calls Tryd.prog 36 #[.slice (some ⟨b, o, none⟩) s.size c] w (ITok w R) := by
  have h0i : (0 : Int) < s.size := by omega
  have hck0 := hB.cell 0 h0
  rw [Nat.add_zero, hx] at hck0
  have hblt := hB.lt
  change w.cell? ⟨b, o, none⟩ = some (.int .u8 37) at hck0
  clear hB hx
  go_enter Tryd.func36, Tryd.ntmps36
  go_wp2_with fail
  refine HN.out.mono ?_
  rintro e w1 h
  obtain ⟨kd, vv, n, tx, E, rfl⟩ := tok_form h
  obtain ⟨hT, hb1⟩ := h
  have HT := Lib.hid hT
  clear hT
  rw [World.size_alloc] at hb1
  obtain ⟨f0, f1, f2, f3, f4, f5, z0, z1, z2, z3, z4, z5⟩ := tokAt hb1
  have HW1 := Lib.hid (below_of_tok hb1)
  have hsz1 : w.heap.size < w1.heap.size := by have := hb1.size; simp at this; omega
  clear hb1
  go_wp2_with fail
  exact bodyPost_ret (v := .tuple #[.agg #[.int .i64 kd, .int .i64 0, .int .i64 0, .string tx, .int .u32 vv, .int .i64 0], .int .i64 n, E]) (by simp [results, Tryd.results36, go_sem, f0, f1, f2, f3, f4, f5]; done) rfl ⟨HT.out, ((((((HW1.out.setCell (by simp) _).setCell (by simp) _).setCell (by simp) _).setCell (by simp) _).setCell (by simp) _).setCell (by simp) _)⟩

set_option maxRecDepth 100000 in
set_option maxHeartbeats 1000000 in
omit hs hc in
theorem tk_char (hx : (s[0]'h0) = 39) (R : Tk) (HN : Hid (Calls Tryd.prog 54 #[.slice (some ⟨b, o, none⟩) s.size c] (w.alloc zerosI) (ITok (w.alloc zerosI) R))) : Calls Tryd.prog 36 #[.slice (some ⟨b, o, none⟩) s.size c] w (ITok w R) := by
  have h0i : (0 : Int) < s.size := by omega
  have hck0 := hB.cell 0 h0
  rw [Nat.add_zero, hx] at hck0
  have hblt := hB.lt
  change w.cell? ⟨b, o, none⟩ = some (.int .u8 39) at hck0
  clear hB hx
  go_enter Tryd.func36, Tryd.ntmps36
  go_wp2_with fail
  refine HN.out.mono ?_
  rintro e w1 h
  obtain ⟨kd, vv, n, tx, E, rfl⟩ := tok_form h
  obtain ⟨hT, hb1⟩ := h
  have HT := Lib.hid hT
  clear hT
  rw [World.size_alloc] at hb1
  obtain ⟨f0, f1, f2, f3, f4, f5, z0, z1, z2, z3, z4, z5⟩ := tokAt hb1
  have HW1 := Lib.hid (below_of_tok hb1)
  have hsz1 : w.heap.size < w1.heap.size := by have := hb1.size; simp at this; omega
  clear hb1
  go_wp2_with fail
  exact bodyPost_ret (v := .tuple #[.agg #[.int .i64 kd, .int .i64 0, .int .i64 0, .string tx, .int .u32 vv, .int .i64 0], .int .i64 n, E]) (by simp [results, Tryd.results36, go_sem, f0, f1, f2, f3, f4, f5]; done) rfl ⟨HT.out, ((((((HW1.out.setCell (by simp) _).setCell (by simp) _).setCell (by simp) _).setCell (by simp) _).setCell (by simp) _).setCell (by simp) _)⟩

set_option maxRecDepth 100000 in
set_option maxHeartbeats 1000000 in
omit hs hc in
theorem tk_text (hx : (s[0]'h0) = 34) (R : Tk) (HN : Hid (Calls Tryd.prog 55 #[.slice (some ⟨b, o, none⟩) s.size c] (w.alloc zerosI) (ITok (w.alloc zerosI) R))) : Calls Tryd.prog 36 #[.slice (some ⟨b, o, none⟩) s.size c] w (ITok w R) := by
  have h0i : (0 : Int) < s.size := by omega
  have hck0 := hB.cell 0 h0
  rw [Nat.add_zero, hx] at hck0
  have hblt := hB.lt
  change w.cell? ⟨b, o, none⟩ = some (.int .u8 34) at hck0
  clear hB hx
  go_enter Tryd.func36, Tryd.ntmps36
  go_wp2_with fail
  refine HN.out.mono ?_
  rintro e w1 h
  obtain ⟨kd, vv, n, tx, E, rfl⟩ := tok_form h
  obtain ⟨hT, hb1⟩ := h
  have HT := Lib.hid hT
  clear hT
  rw [World.size_alloc] at hb1
  obtain ⟨f0, f1, f2, f3, f4, f5, z0, z1, z2, z3, z4, z5⟩ := tokAt hb1
  have HW1 := Lib.hid (below_of_tok hb1)
  have hsz1 : w.heap.size < w1.heap.size := by have := hb1.size; simp at this; omega
  clear hb1
  go_wp2_with fail
  exact bodyPost_ret (v := .tuple #[.agg #[.int .i64 kd, .int .i64 0, .int .i64 0, .string tx, .int .u32 vv, .int .i64 0], .int .i64 n, E]) (by simp [results, Tryd.results36, go_sem, f0, f1, f2, f3, f4, f5]; done) rfl ⟨HT.out, ((((((HW1.out.setCell (by simp) _).setCell (by simp) _).setCell (by simp) _).setCell (by simp) _).setCell (by simp) _).setCell (by simp) _)⟩

set_option maxRecDepth 100000 in
set_option maxHeartbeats 1000000 in
omit hs hc in
theorem tk_plain (q64 : (((s[0]'h0).toNat : Int) == 64) = false) (q92 : (((s[0]'h0).toNat : Int) == 92) = false) (q37 : (((s[0]'h0).toNat : Int) == 37) = false) (q39 : (((s[0]'h0).toNat : Int) == 39) = false) (q34 : (((s[0]'h0).toNat : Int) == 34) = false) (q60 : (((s[0]'h0).toNat : Int) == 60) = false) (q62 : (((s[0]'h0).toNat : Int) == 62) = false) (q44 : (((s[0]'h0).toNat : Int) == 44) = false) (q58 : (((s[0]'h0).toNat : Int) == 58) = false) (q40 : (((s[0]'h0).toNat : Int) == 40) = false) (q41 : (((s[0]'h0).toNat : Int) == 41) = false) (q43 : (((s[0]'h0).toNat : Int) == 43) = false) (q45 : (((s[0]'h0).toNat : Int) == 45) = false) (q42 : (((s[0]'h0).toNat : Int) == 42) = false) (q47 : (((s[0]'h0).toNat : Int) == 47) = false) (q38 : (((s[0]'h0).toNat : Int) == 38) = false) (q124 : (((s[0]'h0).toNat : Int) == 124) = false) (q94 : (((s[0]'h0).toNat : Int) == 94) = false) (q126 : (((s[0]'h0).toNat : Int) == 126) = false) (q61 : (((s[0]'h0).toNat : Int) == 61) = false) (R : Tk) (HN : Hid (Calls Tryd.prog 56 #[.slice (some ⟨b, o, none⟩) s.size c] (w.alloc zerosI) (ITok (w.alloc zerosI) R))) : Calls Tryd.prog 36 #[.slice (some ⟨b, o, none⟩) s.size c] w (ITok w R) := by
  have h0i : (0 : Int) < s.size := by omega
  have hck0 := hB.cell 0 h0
  rw [Nat.add_zero] at hck0
  have hblt := hB.lt
  clear hB
  go_enter Tryd.func36, Tryd.ntmps36
  go_wp2_with fail
  refine HN.out.mono ?_
  rintro e w1 h
  obtain ⟨kd, vv, n, tx, E, rfl⟩ := tok_form h
  obtain ⟨hT, hb1⟩ := h
  have HT := Lib.hid hT
  clear hT
  rw [World.size_alloc] at hb1
  obtain ⟨f0, f1, f2, f3, f4, f5, z0, z1, z2, z3, z4, z5⟩ := tokAt hb1
  have HW1 := Lib.hid (below_of_tok hb1)
  have hsz1 : w.heap.size < w1.heap.size := by have := hb1.size; simp at this; omega
  clear hb1
  go_wp2_with fail
  exact bodyPost_ret (v := .tuple #[.agg #[.int .i64 kd, .int .i64 0, .int .i64 0, .string tx, .int .u32 vv, .int .i64 0], .int .i64 n, E]) (by simp [results, Tryd.results36, go_sem, f0, f1, f2, f3, f4, f5]; done) rfl ⟨HT.out, ((((((HW1.out.setCell (by simp) _).setCell (by simp) _).setCell (by simp) _).setCell (by simp) _).setCell (by simp) _).setCell (by simp) _)⟩

set_option maxRecDepth 100000 in
set_option maxHeartbeats 1000000 in
theorem tk_mark44 (hx : (s[0]'h0) = 44) : Calls Tryd.prog 36 #[.slice (some ⟨b, o, none⟩) s.size c] w (ITok w (.ok 7 [44] 0 1)) := by
  have h0i : (0 : Int) < s.size := by omega
  have hck0 := hB.cell 0 h0
  rw [Nat.add_zero, hx] at hck0
  have hblt := hB.lt
  change w.cell? ⟨b, o, none⟩ = some (.int .u8 44) at hck0
  have h1c : (1 : Int) ≤ c := by omega
  have hcv := conv_bytes (hB.below ((Below.refl _ _).alloc (Nat.le_refl _) zerosI)) 0 1 c (by omega)
  rw [one_byte s h0, hx, Nat.add_zero] at hcv
  clear hB hx
  go_enter Tryd.func36, Tryd.ntmps36
  go_wp2_with fail
  exact bodyPost_ret (v := .tuple #[.agg #[.int .i64 7, .int .i64 0, .int .i64 0, .string (ba [44]), .int .u32 0, .int .i64 0], .int .i64 1, .nilIface]) (by simp [results, Tryd.results36, go_sem]; done) rfl (itok_ok rfl rfl rfl ((Below.refl _ _).alloc (Nat.le_refl _) _))

set_option maxRecDepth 100000 in
set_option maxHeartbeats 1000000 in
theorem tk_mark58 (hx : (s[0]'h0) = 58) : Calls Tryd.prog 36 #[.slice (some ⟨b, o, none⟩) s.size c] w (ITok w (.ok 7 [58] 0 1)) := by
  have h0i : (0 : Int) < s.size := by omega
  have hck0 := hB.cell 0 h0
  rw [Nat.add_zero, hx] at hck0
  have hblt := hB.lt
  change w.cell? ⟨b, o, none⟩ = some (.int .u8 58) at hck0
  have h1c : (1 : Int) ≤ c := by omega
  have hcv := conv_bytes (hB.below ((Below.refl _ _).alloc (Nat.le_refl _) zerosI)) 0 1 c (by omega)
  rw [one_byte s h0, hx, Nat.add_zero] at hcv
  clear hB hx
  go_enter Tryd.func36, Tryd.ntmps36
  go_wp2_with fail
  exact bodyPost_ret (v := .tuple #[.agg #[.int .i64 7, .int .i64 0, .int .i64 0, .string (ba [58]), .int .u32 0, .int .i64 0], .int .i64 1, .nilIface]) (by simp [results, Tryd.results36, go_sem]; done) rfl (itok_ok rfl rfl rfl ((Below.refl _ _).alloc (Nat.le_refl _) _))

set_option maxRecDepth 100000 in
set_option maxHeartbeats 1000000 in
theorem tk_mark40 (hx : (s[0]'h0) = 40) : Calls Tryd.prog 36 #[.slice (some ⟨b, o, none⟩) s.size c] w (ITok w (.ok 7 [40] 0 1)) := by
  have h0i : (0 : Int) < s.size := by omega
  have hck0 := hB.cell 0 h0
  rw [Nat.add_zero, hx] at hck0
  have hblt := hB.lt
  change w.cell? ⟨b, o, none⟩ = some (.int .u8 40) at hck0
  have h1c : (1 : Int) ≤ c := by omega
  have hcv := conv_bytes (hB.below ((Below.refl _ _).alloc (Nat.le_refl _) zerosI)) 0 1 c (by omega)
  rw [one_byte s h0, hx, Nat.add_zero] at hcv
  clear hB hx
  go_enter Tryd.func36, Tryd.ntmps36
  go_wp2_with fail
  exact bodyPost_ret (v := .tuple #[.agg #[.int .i64 7, .int .i64 0, .int .i64 0, .string (ba [40]), .int .u32 0, .int .i64 0], .int .i64 1, .nilIface]) (by simp [results, Tryd.results36, go_sem]; done) rfl (itok_ok rfl rfl rfl ((Below.refl _ _).alloc (Nat.le_refl _) _))

set_option maxRecDepth 100000 in
set_option maxHeartbeats 1000000 in
theorem tk_mark41 (hx : (s[0]'h0) = 41) : Calls Tryd.prog 36 #[.slice (some ⟨b, o, none⟩) s.size c] w (ITok w (.ok 7 [41] 0 1)) := by
  have h0i : (0 : Int) < s.size := by omega
  have hck0 := hB.cell 0 h0
  rw [Nat.add_zero, hx] at hck0
  have hblt := hB.lt
  change w.cell? ⟨b, o, none⟩ = some (.int .u8 41) at hck0
  have h1c : (1 : Int) ≤ c := by omega
  have hcv := conv_bytes (hB.below ((Below.refl _ _).alloc (Nat.le_refl _) zerosI)) 0 1 c (by omega)
  rw [one_byte s h0, hx, Nat.add_zero] at hcv
  clear hB hx
  go_enter Tryd.func36, Tryd.ntmps36
  go_wp2_with fail
  exact bodyPost_ret (v := .tuple #[.agg #[.int .i64 7, .int .i64 0, .int .i64 0, .string (ba [41]), .int .u32 0, .int .i64 0], .int .i64 1, .nilIface]) (by simp [results, Tryd.results36, go_sem]; done) rfl (itok_ok rfl rfl rfl ((Below.refl _ _).alloc (Nat.le_refl _) _))

set_option maxRecDepth 100000 in
set_option maxHeartbeats 1000000 in
theorem tk_mark43 (hx : (s[0]'h0) = 43) : Calls Tryd.prog 36 #[.slice (some ⟨b, o, none⟩) s.size c] w (ITok w (.ok 7 [43] 0 1)) := by
  have h0i : (0 : Int) < s.size := by omega
  have hck0 := hB.cell 0 h0
  rw [Nat.add_zero, hx] at hck0
  have hblt := hB.lt
  change w.cell? ⟨b, o, none⟩ = some (.int .u8 43) at hck0
  have h1c : (1 : Int) ≤ c := by omega
  have hcv := conv_bytes (hB.below ((Below.refl _ _).alloc (Nat.le_refl _) zerosI)) 0 1 c (by omega)
  rw [one_byte s h0, hx, Nat.add_zero] at hcv
  clear hB hx
  go_enter Tryd.func36, Tryd.ntmps36
  go_wp2_with fail
  exact bodyPost_ret (v := .tuple #[.agg #[.int .i64 7, .int .i64 0, .int .i64 0, .string (ba [43]), .int .u32 0, .int .i64 0], .int .i64 1, .nilIface]) (by simp [results, Tryd.results36, go_sem]; done) rfl (itok_ok rfl rfl rfl ((Below.refl _ _).alloc (Nat.le_refl _) _))

set_option maxRecDepth 100000 in
set_option maxHeartbeats 1000000 in
theorem tk_mark45 (hx : (s[0]'h0) = 45) : Calls Tryd.prog 36 #[.slice (some ⟨b, o, none⟩) s.size c] w (ITok w (.ok 7 [45] 0 1)) := by
  have h0i : (0 : Int) < s.size := by omega
  have hck0 := hB.cell 0 h0
  rw [Nat.add_zero, hx] at hck0
  have hblt := hB.lt
  change w.cell? ⟨b, o, none⟩ = some (.int .u8 45) at hck0
  have h1c : (1 : Int) ≤ c := by omega
  have hcv := conv_bytes (hB.below ((Below.refl _ _).alloc (Nat.le_refl _) zerosI)) 0 1 c (by omega)
  rw [one_byte s h0, hx, Nat.add_zero] at hcv
  clear hB hx
  go_enter Tryd.func36, Tryd.ntmps36
  go_wp2_with fail
  exact bodyPost_ret (v := .tuple #[.agg #[.int .i64 7, .int .i64 0, .int .i64 0, .string (ba [45]), .int .u32 0, .int .i64 0], .int .i64 1, .nilIface]) (by simp [results, Tryd.results36, go_sem]; done) rfl (itok_ok rfl rfl rfl ((Below.refl _ _).alloc (Nat.le_refl _) _))

set_option maxRecDepth 100000 in
set_option maxHeartbeats 1000000 in
theorem tk_mark42 (hx : (s[0]'h0) = 42) : Calls Tryd.prog 36 #[.slice (some ⟨b, o, none⟩) s.size c] w (ITok w (.ok 7 [42] 0 1)) := by
  have h0i : (0 : Int) < s.size := by omega
  have hck0 := hB.cell 0 h0
  rw [Nat.add_zero, hx] at hck0
  have hblt := hB.lt
  change w.cell? ⟨b, o, none⟩ = some (.int .u8 42) at hck0
  have h1c : (1 : Int) ≤ c := by omega
  have hcv := conv_bytes (hB.below ((Below.refl _ _).alloc (Nat.le_refl _) zerosI)) 0 1 c (by omega)
  rw [one_byte s h0, hx, Nat.add_zero] at hcv
  clear hB hx
  go_enter Tryd.func36, Tryd.ntmps36
  go_wp2_with fail
  exact bodyPost_ret (v := .tuple #[.agg #[.int .i64 7, .int .i64 0, .int .i64 0, .string (ba [42]), .int .u32 0, .int .i64 0], .int .i64 1, .nilIface]) (by simp [results, Tryd.results36, go_sem]; done) rfl (itok_ok rfl rfl rfl ((Below.refl _ _).alloc (Nat.le_refl _) _))

set_option maxRecDepth 100000 in
set_option maxHeartbeats 1000000 in
theorem tk_mark47 (hx : (s[0]'h0) = 47) : Calls Tryd.prog 36 #[.slice (some ⟨b, o, none⟩) s.size c] w (ITok w (.ok 7 [47] 0 1)) := by
  have h0i : (0 : Int) < s.size := by omega
  have hck0 := hB.cell 0 h0
  rw [Nat.add_zero, hx] at hck0
  have hblt := hB.lt
  change w.cell? ⟨b, o, none⟩ = some (.int .u8 47) at hck0
  have h1c : (1 : Int) ≤ c := by omega
  have hcv := conv_bytes (hB.below ((Below.refl _ _).alloc (Nat.le_refl _) zerosI)) 0 1 c (by omega)
  rw [one_byte s h0, hx, Nat.add_zero] at hcv
  clear hB hx
  go_enter Tryd.func36, Tryd.ntmps36
  go_wp2_with fail
  exact bodyPost_ret (v := .tuple #[.agg #[.int .i64 7, .int .i64 0, .int .i64 0, .string (ba [47]), .int .u32 0, .int .i64 0], .int .i64 1, .nilIface]) (by simp [results, Tryd.results36, go_sem]; done) rfl (itok_ok rfl rfl rfl ((Below.refl _ _).alloc (Nat.le_refl _) _))

set_option maxRecDepth 100000 in
set_option maxHeartbeats 1000000 in
theorem tk_mark38 (hx : (s[0]'h0) = 38) : Calls Tryd.prog 36 #[.slice (some ⟨b, o, none⟩) s.size c] w (ITok w (.ok 7 [38] 0 1)) := by
  have h0i : (0 : Int) < s.size := by omega
  have hck0 := hB.cell 0 h0
  rw [Nat.add_zero, hx] at hck0
  have hblt := hB.lt
  change w.cell? ⟨b, o, none⟩ = some (.int .u8 38) at hck0
  have h1c : (1 : Int) ≤ c := by omega
  have hcv := conv_bytes (hB.below ((Below.refl _ _).alloc (Nat.le_refl _) zerosI)) 0 1 c (by omega)
  rw [one_byte s h0, hx, Nat.add_zero] at hcv
  clear hB hx
  go_enter Tryd.func36, Tryd.ntmps36
  go_wp2_with fail
  exact bodyPost_ret (v := .tuple #[.agg #[.int .i64 7, .int .i64 0, .int .i64 0, .string (ba [38]), .int .u32 0, .int .i64 0], .int .i64 1, .nilIface]) (by simp [results, Tryd.results36, go_sem]; done) rfl (itok_ok rfl rfl rfl ((Below.refl _ _).alloc (Nat.le_refl _) _))

set_option maxRecDepth 100000 in
set_option maxHeartbeats 1000000 in
theorem tk_mark124 (hx : (s[0]'h0) = 124) : Calls Tryd.prog 36 #[.slice (some ⟨b, o, none⟩) s.size c] w (ITok w (.ok 7 [124] 0 1)) := by
  have h0i : (0 : Int) < s.size := by omega
  have hck0 := hB.cell 0 h0
  rw [Nat.add_zero, hx] at hck0
  have hblt := hB.lt
  change w.cell? ⟨b, o, none⟩ = some (.int .u8 124) at hck0
  have h1c : (1 : Int) ≤ c := by omega
  have hcv := conv_bytes (hB.below ((Below.refl _ _).alloc (Nat.le_refl _) zerosI)) 0 1 c (by omega)
  rw [one_byte s h0, hx, Nat.add_zero] at hcv
  clear hB hx
  go_enter Tryd.func36, Tryd.ntmps36
  go_wp2_with fail
  exact bodyPost_ret (v := .tuple #[.agg #[.int .i64 7, .int .i64 0, .int .i64 0, .string (ba [124]), .int .u32 0, .int .i64 0], .int .i64 1, .nilIface]) (by simp [results, Tryd.results36, go_sem]; done) rfl (itok_ok rfl rfl rfl ((Below.refl _ _).alloc (Nat.le_refl _) _))

set_option maxRecDepth 100000 in
set_option maxHeartbeats 1000000 in
theorem tk_mark94 (hx : (s[0]'h0) = 94) : Calls Tryd.prog 36 #[.slice (some ⟨b, o, none⟩) s.size c] w (ITok w (.ok 7 [94] 0 1)) := by
  have h0i : (0 : Int) < s.size := by omega
  have hck0 := hB.cell 0 h0
  rw [Nat.add_zero, hx] at hck0
  have hblt := hB.lt
  change w.cell? ⟨b, o, none⟩ = some (.int .u8 94) at hck0
  have h1c : (1 : Int) ≤ c := by omega
  have hcv := conv_bytes (hB.below ((Below.refl _ _).alloc (Nat.le_refl _) zerosI)) 0 1 c (by omega)
  rw [one_byte s h0, hx, Nat.add_zero] at hcv
  clear hB hx
  go_enter Tryd.func36, Tryd.ntmps36
  go_wp2_with fail
  exact bodyPost_ret (v := .tuple #[.agg #[.int .i64 7, .int .i64 0, .int .i64 0, .string (ba [94]), .int .u32 0, .int .i64 0], .int .i64 1, .nilIface]) (by simp [results, Tryd.results36, go_sem]; done) rfl (itok_ok rfl rfl rfl ((Below.refl _ _).alloc (Nat.le_refl _) _))

set_option maxRecDepth 100000 in
set_option maxHeartbeats 1000000 in
theorem tk_mark126 (hx : (s[0]'h0) = 126) : Calls Tryd.prog 36 #[.slice (some ⟨b, o, none⟩) s.size c] w (ITok w (.ok 7 [126] 0 1)) := by
  have h0i : (0 : Int) < s.size := by omega
  have hck0 := hB.cell 0 h0
  rw [Nat.add_zero, hx] at hck0
  have hblt := hB.lt
  change w.cell? ⟨b, o, none⟩ = some (.int .u8 126) at hck0
  have h1c : (1 : Int) ≤ c := by omega
  have hcv := conv_bytes (hB.below ((Below.refl _ _).alloc (Nat.le_refl _) zerosI)) 0 1 c (by omega)
  rw [one_byte s h0, hx, Nat.add_zero] at hcv
  clear hB hx
  go_enter Tryd.func36, Tryd.ntmps36
  go_wp2_with fail
  exact bodyPost_ret (v := .tuple #[.agg #[.int .i64 7, .int .i64 0, .int .i64 0, .string (ba [126]), .int .u32 0, .int .i64 0], .int .i64 1, .nilIface]) (by simp [results, Tryd.results36, go_sem]; done) rfl (itok_ok rfl rfl rfl ((Below.refl _ _).alloc (Nat.le_refl _) _))

set_option maxRecDepth 100000 in
set_option maxHeartbeats 1000000 in
theorem tk_mark61 (hx : (s[0]'h0) = 61) : Calls Tryd.prog 36 #[.slice (some ⟨b, o, none⟩) s.size c] w (ITok w (.ok 7 [61] 0 1)) := by
  have h0i : (0 : Int) < s.size := by omega
  have hck0 := hB.cell 0 h0
  rw [Nat.add_zero, hx] at hck0
  have hblt := hB.lt
  change w.cell? ⟨b, o, none⟩ = some (.int .u8 61) at hck0
  have h1c : (1 : Int) ≤ c := by omega
  have hcv := conv_bytes (hB.below ((Below.refl _ _).alloc (Nat.le_refl _) zerosI)) 0 1 c (by omega)
  rw [one_byte s h0, hx, Nat.add_zero] at hcv
  clear hB hx
  go_enter Tryd.func36, Tryd.ntmps36
  go_wp2_with fail
  exact bodyPost_ret (v := .tuple #[.agg #[.int .i64 7, .int .i64 0, .int .i64 0, .string (ba [61]), .int .u32 0, .int .i64 0], .int .i64 1, .nilIface]) (by simp [results, Tryd.results36, go_sem]; done) rfl (itok_ok rfl rfl rfl ((Below.refl _ _).alloc (Nat.le_refl _) _))

set_option maxRecDepth 100000 in
set_option maxHeartbeats 1000000 in
theorem tk_two60 (hx : (s[0]'h0) = 60) : Calls Tryd.prog 36 #[.slice (some ⟨b, o, none⟩) s.size c] w (ITok w (if (s.data.toList.drop 1).getD 0 0 = 60 ∧ 0 < (s.data.toList.drop 1).length then .ok 7 [60, 60] 0 2 else .bad 2)) := by
  have h0i : (0 : Int) < s.size := by omega
  have hck0 := hB.cell 0 h0
  rw [Nat.add_zero, hx] at hck0
  have hblt := hB.lt
  change w.cell? ⟨b, o, none⟩ = some (.int .u8 60) at hck0
  by_cases h2 : s.size < 2
  · have h2i : (s.size : Int) < 2 := by omega
    rw [if_neg (fun h => by have := h.2; rw [List.length_drop, len_size] at this; omega)]
    clear hB hx
    go_enter Tryd.func36, Tryd.ntmps36
    go_wp2_with fail
    exact bodyPost_ret (v := .tuple #[.agg #[.int .i64 0, .int .i64 0, .int .i64 0, .string ⟨#[]⟩, .int .u32 0, .int .i64 0], .int .i64 0, .iface 56 (.int .i64 2)]) (by simp [results, Tryd.results36, go_sem]; done) rfl ⟨rfl, ((Below.refl _ _).alloc (Nat.le_refl _) _)⟩
  · have h2i : ¬ (s.size : Int) < 2 := by omega
    have h1 : 1 < s.size := by omega
    have h1i : (1 : Int) < s.size := by omega
    have h2c : (2 : Int) ≤ c := by omega
    have hck1 := hB.cell 1 h1
    have hd0 : (s.data.toList.drop 1).getD 0 0 = (s[1]'h1) := by
      rw [← at_getD s 1 h1]
      simp [List.getD_eq_getElem?_getD]
    have hl1 : 0 < (s.data.toList.drop 1).length := by rw [List.length_drop, len_size]; omega
    rw [hd0]
    by_cases he : (s[1]'h1) = 60
    · rw [if_pos ⟨he, hl1⟩]
      have hcv := conv_bytes (hB.below ((Below.refl _ _).alloc (Nat.le_refl _) zerosI)) 0 2 c (by omega)
      rw [two_bytes s h1, hx, he, Nat.add_zero] at hcv
      rw [he] at hck1
      change w.cell? ⟨b, o + 1, none⟩ = some (.int .u8 60) at hck1
      clear hB hx hd0 hl1 he
      go_enter Tryd.func36, Tryd.ntmps36
      go_wp2_with fail
      exact bodyPost_ret (v := .tuple #[.agg #[.int .i64 7, .int .i64 0, .int .i64 0, .string (ba [60, 60]), .int .u32 0, .int .i64 0], .int .i64 2, .nilIface]) (by simp [results, Tryd.results36, go_sem]; done) rfl (itok_ok rfl rfl rfl ((Below.refl _ _).alloc (Nat.le_refl _) _))
    · rw [if_neg (fun h => he h.1)]
      have hne : (((s[1]'h1).toNat : Int) != 60) = true := by rw [bne_iff_ne]; exact fun h => he ((nat_eq _ 60 (by decide)).1 h)
      have hne2 : (((s[1]'h1).toNat : Int) == 60) = false := beq_nat_f (k := 60) (by decide) he
      clear hB hx hd0 hl1 he
      go_enter Tryd.func36, Tryd.ntmps36
      go_wp2_with fail
      exact bodyPost_ret (v := .tuple #[.agg #[.int .i64 0, .int .i64 0, .int .i64 0, .string ⟨#[]⟩, .int .u32 0, .int .i64 0], .int .i64 0, .iface 56 (.int .i64 2)]) (by simp [results, Tryd.results36, go_sem]; done) rfl ⟨rfl, ((Below.refl _ _).alloc (Nat.le_refl _) _)⟩

set_option maxRecDepth 100000 in
set_option maxHeartbeats 1000000 in
theorem tk_two62 (hx : (s[0]'h0) = 62) : Calls Tryd.prog 36 #[.slice (some ⟨b, o, none⟩) s.size c] w (ITok w (if (s.data.toList.drop 1).getD 0 0 = 62 ∧ 0 < (s.data.toList.drop 1).length then .ok 7 [62, 62] 0 2 else .bad 2)) := by
  have h0i : (0 : Int) < s.size := by omega
  have hck0 := hB.cell 0 h0
  rw [Nat.add_zero, hx] at hck0
  have hblt := hB.lt
  change w.cell? ⟨b, o, none⟩ = some (.int .u8 62) at hck0
  by_cases h2 : s.size < 2
  · have h2i : (s.size : Int) < 2 := by omega
    rw [if_neg (fun h => by have := h.2; rw [List.length_drop, len_size] at this; omega)]
    clear hB hx
    go_enter Tryd.func36, Tryd.ntmps36
    go_wp2_with fail
    exact bodyPost_ret (v := .tuple #[.agg #[.int .i64 0, .int .i64 0, .int .i64 0, .string ⟨#[]⟩, .int .u32 0, .int .i64 0], .int .i64 0, .iface 56 (.int .i64 2)]) (by simp [results, Tryd.results36, go_sem]; done) rfl ⟨rfl, ((Below.refl _ _).alloc (Nat.le_refl _) _)⟩
  · have h2i : ¬ (s.size : Int) < 2 := by omega
    have h1 : 1 < s.size := by omega
    have h1i : (1 : Int) < s.size := by omega
    have h2c : (2 : Int) ≤ c := by omega
    have hck1 := hB.cell 1 h1
    have hd0 : (s.data.toList.drop 1).getD 0 0 = (s[1]'h1) := by
      rw [← at_getD s 1 h1]
      simp [List.getD_eq_getElem?_getD]
    have hl1 : 0 < (s.data.toList.drop 1).length := by rw [List.length_drop, len_size]; omega
    rw [hd0]
    by_cases he : (s[1]'h1) = 62
    · rw [if_pos ⟨he, hl1⟩]
      have hcv := conv_bytes (hB.below ((Below.refl _ _).alloc (Nat.le_refl _) zerosI)) 0 2 c (by omega)
      rw [two_bytes s h1, hx, he, Nat.add_zero] at hcv
      rw [he] at hck1
      change w.cell? ⟨b, o + 1, none⟩ = some (.int .u8 62) at hck1
      clear hB hx hd0 hl1 he
      go_enter Tryd.func36, Tryd.ntmps36
      go_wp2_with fail
      exact bodyPost_ret (v := .tuple #[.agg #[.int .i64 7, .int .i64 0, .int .i64 0, .string (ba [62, 62]), .int .u32 0, .int .i64 0], .int .i64 2, .nilIface]) (by simp [results, Tryd.results36, go_sem]; done) rfl (itok_ok rfl rfl rfl ((Below.refl _ _).alloc (Nat.le_refl _) _))
    · rw [if_neg (fun h => he h.1)]
      have hne : (((s[1]'h1).toNat : Int) != 62) = true := by rw [bne_iff_ne]; exact fun h => he ((nat_eq _ 62 (by decide)).1 h)
      have hne2 : (((s[1]'h1).toNat : Int) == 62) = false := beq_nat_f (k := 62) (by decide) he
      clear hB hx hd0 hl1 he
      go_enter Tryd.func36, Tryd.ntmps36
      go_wp2_with fail
      exact bodyPost_ret (v := .tuple #[.agg #[.int .i64 0, .int .i64 0, .int .i64 0, .string ⟨#[]⟩, .int .u32 0, .int .i64 0], .int .i64 0, .iface 56 (.int .i64 2)]) (by simp [results, Tryd.results36, go_sem]; done) rfl ⟨rfl, ((Below.refl _ _).alloc (Nat.le_refl _) _)⟩

end
end Go.Proofs.YtbhfblogjlpnlaaDoor
