/-
  The contract of the lexer's plain: a name, or a number. Conditions: the slice's bytes lie in the memory; it has a byte, and at most 65536.
-/
import Derived.Test.YtbhfblogjlpnlaaDoorIxMark
import Derived.Test.YtbhfblogjlpnlaaDoorIxNumberG
namespace Go.Proofs.YtbhfblogjlpnlaaDoor
open Go.RowKit

set_option maxRecDepth 100000 in
set_option maxHeartbeats 1000000 in
theorem plain_dig (s : ByteArray) (b o c : Nat) (w : World) (hs : s.size ≤ 65536) (h0 : 0 < s.size) (hc : s.size ≤ c) (hB : Bytes w b o s) (hd : isDig (s[0]'h0) = true) :
    Calls Tryd.prog 56 #[.slice (some ⟨b, o, none⟩) s.size c] w (ITok w (match numeral s.data.toList with
      | some (v, n) => .ok 5 [] v n
      | none => .bad 3)) := by
  have h0i : (0 : Int) < s.size := by omega
  have hck0 := hB.cell 0 h0
  rw [Nat.add_zero] at hck0
  have hblt := hB.lt
  have HD := fun W => isDigit_any (s[0]'h0) W
  rw [hd] at HD
  have HDD := Lib.hid HD
  have HN := Lib.hid (number_any s b o c (w.alloc zerosI) hs h0 hc (hB.below ((Below.refl _ _).alloc (Nat.le_refl _) _)))
  clear HD hd hB
  cases hn : numeral s.data.toList with
  | none =>
    rw [hn] at HN
    clear hn
    go_enter Tryd.func56, Tryd.ntmps56
    go_wp2_with fail
    refine (HDD.out _).mono ?_
    rintro e w' ⟨rfl, rfl⟩
    go_wp2_with fail
    refine HN.out.mono ?_
    rintro e w1 ⟨rfl, hb1⟩
    rw [World.size_alloc] at hb1
    obtain ⟨f0, f1, f2, f3, f4, f5, z0, z1, z2, z3, z4, z5⟩ := tokAt hb1
    have HW1 := Lib.hid (below_of_tok hb1)
    have hsz1 : w.heap.size < w1.heap.size := by have := hb1.size; simp at this; omega
    clear hb1
    go_wp2_with fail
    exact bodyPost_ret (v := .tuple #[.agg #[.int .i64 0, .int .i64 0, .int .i64 0, .string ByteArray.empty, .int .u32 0, .int .i64 0], .int .i64 0, .iface 56 (.int .i64 3)]) (by simp [results, Tryd.results56, go_sem, f0, f1, f2, f3, f4, f5]; done) rfl ⟨rfl, ((((((HW1.out.setCell (by simp) _).setCell (by simp) _).setCell (by simp) _).setCell (by simp) _).setCell (by simp) _).setCell (by simp) _)⟩
  | some x =>
    obtain ⟨V, n⟩ := x
    rw [hn] at HN
    clear hn
    go_enter Tryd.func56, Tryd.ntmps56
    go_wp2_with fail
    refine (HDD.out _).mono ?_
    rintro e w' ⟨rfl, rfl⟩
    go_wp2_with fail
    refine HN.out.mono ?_
    rintro e w1 ⟨rfl, hb1⟩
    rw [World.size_alloc] at hb1
    obtain ⟨f0, f1, f2, f3, f4, f5, z0, z1, z2, z3, z4, z5⟩ := tokAt hb1
    have HW1 := Lib.hid (below_of_tok hb1)
    have hsz1 : w.heap.size < w1.heap.size := by have := hb1.size; simp at this; omega
    clear hb1
    go_wp2_with fail
    exact bodyPost_ret (v := .tuple #[.agg #[.int .i64 5, .int .i64 0, .int .i64 0, .string (ba []), .int .u32 V, .int .i64 0], .int .i64 n, .nilIface]) (by simp [results, Tryd.results56, go_sem, f0, f1, f2, f3, f4, f5]; done) rfl ⟨rfl, ((((((HW1.out.setCell (by simp) _).setCell (by simp) _).setCell (by simp) _).setCell (by simp) _).setCell (by simp) _).setCell (by simp) _)⟩

set_option maxRecDepth 100000 in
set_option maxHeartbeats 1000000 in
theorem plain_name (s : ByteArray) (b o c : Nat) (w : World) (hs : s.size ≤ 65536) (h0 : 0 < s.size) (hc : s.size ≤ c) (hB : Bytes w b o s) (hd : isDig (s[0]'h0) = false) :
    Calls Tryd.prog 56 #[.slice (some ⟨b, o, none⟩) s.size c] w (ITok w (if isHead (s[0]'h0) then .ok 1 (s.data.toList.take (pre goOnName s.data.toList)) 0 (pre goOnName s.data.toList) else .bad 2)) := by
  have h0i : (0 : Int) < s.size := by omega
  have hck0 := hB.cell 0 h0
  rw [Nat.add_zero] at hck0
  have hblt := hB.lt
  have HD := fun W => isDigit_any (s[0]'h0) W
  rw [hd] at HD
  have HDD := Lib.hid HD
  have HL := fun W => isLetter_any (s[0]'h0) W
  have HRUN := Lib.hid (fun W hW => run_name s (some ⟨b, o, none⟩) c W hs (.inr ⟨b, o, rfl, hB.below hW⟩))
  have hple := pre_le goOnName s.data.toList
  rw [len_size] at hple
  have hcv := conv_bytes (hB.below ((Below.refl _ _).alloc (Nat.le_refl _) zerosI)) 0 (pre goOnName s.data.toList) c (by omega)
  rw [Nat.zero_add, ba_take, Nat.add_zero] at hcv
  have hp : isHead (s[0]'h0) = (isLet (s[0]'h0) || (s[0]'h0) == 95 || (s[0]'h0) == 46) := rfl
  have h46 := eq_nat (s[0]'h0) 46 (by decide)
  have h95 := eq_nat (s[0]'h0) 95 (by decide)
  generalize (s[0]'h0) = x at *
  generalize s.data.toList.take (pre goOnName s.data.toList) = T at *
  generalize pre goOnName s.data.toList = P at *
  have hpi : (P : Int) ≤ s.size := by omega
  have hpc : (P : Int) ≤ c := by omega
  have hp0 : (0 : Int) ≤ (P : Int) := by omega
  change (x == 46) = _ at h46
  change (x == 95) = _ at h95
  rw [h46, h95] at hp
  clear HD hd hB hple h46 h95
  cases hl : isLet x with
  | true =>
    rw [hl] at HL hp
    rw [hp, if_pos (by simp)]
    have HLL := Lib.hid HL
    clear HL hl hp
    go_enter Tryd.func56, Tryd.ntmps56
    go_wp2_with fail
    refine (HDD.out _).mono ?_
    rintro e w' ⟨rfl, rfl⟩
    go_wp2_with fail
    refine (HLL.out _).mono ?_
    rintro e w' ⟨rfl, rfl⟩
    go_wp2_with fail
    refine (HRUN.out _ ((Below.refl _ _).alloc (Nat.le_refl _) _)).mono ?_
    rintro e w' ⟨rfl, rfl⟩
    go_wp2_with fail
    exact bodyPost_ret (v := .tuple #[.agg #[.int .i64 1, .int .i64 0, .int .i64 0, .string (ba T), .int .u32 0, .int .i64 0], .int .i64 ((P : Int)), .nilIface]) (by simp [results, Tryd.results56, go_sem]; done) rfl (itok_ok rfl rfl (by omega) ((Below.refl _ _).alloc (Nat.le_refl _) _))
  | false =>
    rw [hl] at HL hp
    have HLL := Lib.hid HL
    clear HL hl
    cases h4 : ((x.toNat : Int) == 46) with
    | true =>
      rw [hp, if_pos (by simp [h4])]
      clear hp
      go_enter Tryd.func56, Tryd.ntmps56
      go_wp2_with fail
      refine (HDD.out _).mono ?_
      rintro e w' ⟨rfl, rfl⟩
      go_wp2_with fail
      refine (HLL.out _).mono ?_
      rintro e w' ⟨rfl, rfl⟩
      go_wp2_with fail
      refine (HRUN.out _ ((Below.refl _ _).alloc (Nat.le_refl _) _)).mono ?_
      rintro e w' ⟨rfl, rfl⟩
      go_wp2_with fail
      exact bodyPost_ret (v := .tuple #[.agg #[.int .i64 1, .int .i64 0, .int .i64 0, .string (ba T), .int .u32 0, .int .i64 0], .int .i64 ((P : Int)), .nilIface]) (by simp [results, Tryd.results56, go_sem]; done) rfl (itok_ok rfl rfl (by omega) ((Below.refl _ _).alloc (Nat.le_refl _) _))
    | false =>
      cases h9 : ((x.toNat : Int) == 95) with
      | true =>
        rw [hp, if_pos (by simp [h9])]
        clear hp
        go_enter Tryd.func56, Tryd.ntmps56
        go_wp2_with fail
        refine (HDD.out _).mono ?_
        rintro e w' ⟨rfl, rfl⟩
        go_wp2_with fail
        refine (HLL.out _).mono ?_
        rintro e w' ⟨rfl, rfl⟩
        go_wp2_with fail
        refine (HRUN.out _ ((Below.refl _ _).alloc (Nat.le_refl _) _)).mono ?_
        rintro e w' ⟨rfl, rfl⟩
        go_wp2_with fail
        exact bodyPost_ret (v := .tuple #[.agg #[.int .i64 1, .int .i64 0, .int .i64 0, .string (ba T), .int .u32 0, .int .i64 0], .int .i64 ((P : Int)), .nilIface]) (by simp [results, Tryd.results56, go_sem]; done) rfl (itok_ok rfl rfl (by omega) ((Below.refl _ _).alloc (Nat.le_refl _) _))
      | false =>
        rw [hp, if_neg (by simp [h4, h9])]
        clear hp
        go_enter Tryd.func56, Tryd.ntmps56
        go_wp2_with fail
        refine (HDD.out _).mono ?_
        rintro e w' ⟨rfl, rfl⟩
        go_wp2_with fail
        refine (HLL.out _).mono ?_
        rintro e w' ⟨rfl, rfl⟩
        go_wp2_with fail
        exact bodyPost_ret (v := .tuple #[.agg #[.int .i64 0, .int .i64 0, .int .i64 0, .string ⟨#[]⟩, .int .u32 0, .int .i64 0], .int .i64 0, .iface 56 (.int .i64 2)]) (by simp [results, Tryd.results56, go_sem]; done) rfl ⟨rfl, ((Below.refl _ _).alloc (Nat.le_refl _) _)⟩
end Go.Proofs.YtbhfblogjlpnlaaDoor
