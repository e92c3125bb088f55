/-
  The contracts of the lexer's marked and function. Conditions: the slice's bytes lie in the memory; it has a byte, and at most 65536.
-/
import Derived.Test.YtbhfblogjlpnlaaDoorIxNumber
namespace Go.Proofs.YtbhfblogjlpnlaaDoor
open Go.RowKit

@[reducible] def zerosI : Obj := .cells #[.int .i64 0, .int .i64 0, .int .i64 0, .string ⟨#[]⟩, .int .u32 0, .int .i64 0] 39

theorem itok_ok {w0 w' : World} {e : Ending} {k v n : Int} {t : ByteArray} {l : Bs} {m : Nat} (he : e = .returned (.tuple #[.agg #[.int .i64 k, .int .i64 0, .int .i64 0, .string t, .int .u32 v, .int .i64 0], .int .i64 n, .nilIface])) (ht : t = ba l) (hn : n = m) (hb : Below w0.heap.size w0 w') : ITok w0 (.ok k l v m) e w' :=
  ⟨by rw [he, ht, hn], hb⟩

theorem ext_tail (s : ByteArray) (P : Nat) : s.extract 1 (1 + P) = ba ((s.data.toList.drop 1).take P) := ba_eq (by rw [ext_list, ba_list, List.drop_take, Nat.add_sub_cancel_left])

theorem run_tail0 (A : Option Addr) (m : Nat) (W : World) : Calls Tryd.prog 50 #[.slice A 0 m, .func (.func 76) #[] #[]] W fun e w' => e = .returned (.int .i64 0) ∧ W = w' :=
  run_on ByteArray.empty A m W (by decide) (.inl rfl)
theorem run_tail (s : ByteArray) (b o c P : Nat) (W : World) (hs : s.size ≤ 65536) (hB : Bytes W b o s) (hP : pre goOn (s.data.toList.drop 1) = P) :
    Calls Tryd.prog 50 #[.slice (some ⟨b, o + 1, none⟩) (s.size - 1) c, .func (.func 76) #[] #[]] W fun e w' => e = .returned (.int .i64 P) ∧ W = w' := by
  have h := run_on (s.extract 1 s.size) (some ⟨b, o + 1, none⟩) c W (by simp; omega) (.inr ⟨b, o + 1, rfl, hB.part 1 s.size (Nat.le_refl _)⟩)
  have h1 : (s.extract 1 s.size).size = s.size - 1 := by simp
  rw [h1, ext_drop, hP] at h
  exact h

set_option maxRecDepth 100000 in
set_option maxHeartbeats 1000000 in
theorem marked_any (kd : Int) (s : ByteArray) (b o c P : Nat) (r : Bs) (w : World) (hs : s.size ≤ 65536) (h0 : 0 < s.size) (hc : s.size ≤ c) (hB : Bytes w b o s) (hr : s.data.toList.drop 1 = r) (hP : pre goOn r = P) :
    Calls Tryd.prog 52 #[.int .i64 kd, .slice (some ⟨b, o, none⟩) s.size c] w (ITok w (if 0 < P ∧ isDig (r.getD 0 0) = false then .ok kd (r.take P) 0 (P + 1) else .bad 2)) := by
  have hlen : r.length + 1 = s.size := by rw [← hr, List.length_drop, len_size]; omega
  have hple := pre_le goOn r
  rw [hP] at hple
  have h0i : (0 : Int) < s.size := by omega
  by_cases hc1 : c = 1
  · subst hc1
    have hP0 : P = 0 := by omega
    rw [if_neg (by omega)]
    have h1i : (1 : Int) ≤ s.size := by omega
    have HRUN := Lib.hid run_tail0
    clear hlen hple hP0 hB hP
    go_enter Tryd.func52, Tryd.ntmps52
    go_wp2_with fail
    refine (HRUN.out _ _ _).mono ?_
    rintro e w' ⟨rfl, rfl⟩
    go_wp2_with fail
    exact bodyPost_ret (v := .tuple #[.agg #[.int .i64 0, .int .i64 0, .int .i64 0, .string ⟨#[]⟩, .int .u32 0, .int .i64 0], .int .i64 0, .iface 56 (.int .i64 2)]) (by simp [results, Tryd.results52, go_sem]; done) rfl ⟨rfl, ((Below.refl _ _).alloc (Nat.le_refl _) _)⟩
  · have h1i : (1 : Int) ≤ s.size := by omega
    have h1c : (1 : Int) ≤ c := by omega
    have HRUN := Lib.hid (fun W hW => run_tail s b o (c - 1) P W hs (hB.below hW) (by rw [hr]; exact hP))
    have hp0 : (0 : Int) ≤ (P : Int) := by omega
    have hpi : ((1 : Int) + P) ≤ s.size := by omega
    have hpc : ((1 : Int) + P) ≤ c := by omega
    have hlo : (1 : Int) ≤ (1 : Int) + P := by omega
    by_cases hP0 : P = 0
    · rw [if_neg (by omega)]
      have hz1 : ((1 : Int) + (P : Int) == 1) = true := by rw [beq_iff_eq]; omega
      have hz2 : ((P : Int) == 0) = true := by rw [beq_iff_eq]; omega
      clear hlen hple hP0 hB hP
      go_enter Tryd.func52, Tryd.ntmps52
      go_wp2_with fail
      refine (HRUN.out _ ((Below.refl _ _).alloc (Nat.le_refl _) _)).mono ?_
      rintro e w' ⟨rfl, rfl⟩
      go_wp2_with fail
      exact bodyPost_ret (v := .tuple #[.agg #[.int .i64 0, .int .i64 0, .int .i64 0, .string ⟨#[]⟩, .int .u32 0, .int .i64 0], .int .i64 0, .iface 56 (.int .i64 2)]) (by simp [results, Tryd.results52, go_sem]; done) rfl ⟨rfl, ((Below.refl _ _).alloc (Nat.le_refl _) _)⟩
    · have h1 : 1 < s.size := by omega
      have h1l : (1 : Int) < s.size := by omega
      have hz1 : ((1 : Int) + (P : Int) == 1) = false := by rw [beq_eq_false_iff_ne]; omega
      have hz2 : ((P : Int) == 0) = false := by rw [beq_eq_false_iff_ne]; omega
      have hd0 : r.getD 0 0 = (s[1]'h1) := by
        have := at_getD s 1 h1
        rw [← this, ← hr]
        simp [List.getD_eq_getElem?_getD]
      rw [hd0]
      have hcell : (w.alloc zerosI).cell? ⟨b, o + 1, none⟩ = some (.int .u8 ((s[1]'h1).toNat : Int)) := (hB.below ((Below.refl _ _).alloc (Nat.le_refl _) _)).cell 1 h1
      have HD := Lib.hid (fun W => isDigit_any (s[1]'h1) W)
      cases hdg : isDig (s[1]'h1) with
      | true =>
        rw [hdg] at HD
        rw [if_neg (fun h => Bool.noConfusion h.2)]
        clear hlen hple hP0 hB hP hd0 hdg
        go_enter Tryd.func52, Tryd.ntmps52
        go_wp2_with fail
        refine (HRUN.out _ ((Below.refl _ _).alloc (Nat.le_refl _) _)).mono ?_
        rintro e w' ⟨rfl, rfl⟩
        go_wp2_with fail
        refine (HD.out _).mono ?_
        rintro e w' ⟨rfl, rfl⟩
        go_wp2_with fail
        exact bodyPost_ret (v := .tuple #[.agg #[.int .i64 0, .int .i64 0, .int .i64 0, .string ⟨#[]⟩, .int .u32 0, .int .i64 0], .int .i64 0, .iface 56 (.int .i64 2)]) (by simp [results, Tryd.results52, go_sem]; done) rfl ⟨rfl, ((Below.refl _ _).alloc (Nat.le_refl _) _)⟩
      | false =>
        rw [hdg] at HD
        rw [if_pos ⟨by omega, rfl⟩]
        have hcv := conv_bytes (hB.below ((Below.refl _ _).alloc (Nat.le_refl _) zerosI)) 1 P (c - 1) (by omega)
        have hlt : (((1 : Int) + (P : Int)).toNat - 1) = P := by omega
        rw [ext_tail s P, hr] at hcv
        clear hlen hple hP0 hB hP hd0 hdg
        go_enter Tryd.func52, Tryd.ntmps52
        go_wp2_with fail
        refine (HRUN.out _ ((Below.refl _ _).alloc (Nat.le_refl _) _)).mono ?_
        rintro e w' ⟨rfl, rfl⟩
        go_wp2_with fail
        refine (HD.out _).mono ?_
        rintro e w' ⟨rfl, rfl⟩
        go_wp2_with fail
        trace_state
        exact bodyPost_ret (v := .tuple #[.agg #[.int .i64 kd, .int .i64 0, .int .i64 0, .string (ba (r.take P)), .int .u32 0, .int .i64 0], .int .i64 ((1 : Int) + P), .nilIface]) (by simp [results, Tryd.results52, go_sem]; done) rfl (itok_ok rfl rfl (by omega) ((Below.refl _ _).alloc (Nat.le_refl _) _))
end Go.Proofs.YtbhfblogjlpnlaaDoor
