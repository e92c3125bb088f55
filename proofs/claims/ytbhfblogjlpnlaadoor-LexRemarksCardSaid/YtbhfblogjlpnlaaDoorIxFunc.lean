/-
  The contract of the lexer's function. Conditions: the slice's bytes lie in the memory; it has a byte, and at most 65536.
-/
import Derived.Test.YtbhfblogjlpnlaaDoorIxMark
namespace Go.Proofs.YtbhfblogjlpnlaaDoor
open Go.RowKit

theorem ba_beq (l m : Bs) : ((ba l).toList == m) = decide (l = m) := by rw [str_list, ba_list]

set_option maxRecDepth 100000 in
set_option maxHeartbeats 1000000 in
theorem function_any (s : ByteArray) (b o c P : Nat) (r : Bs) (w : World) (hs : s.size ≤ 65536) (h0 : 0 < s.size) (hc : s.size ≤ c) (hB : Bytes w b o s) (hr : s.data.toList.drop 1 = r) (hP : pre goOn r = P) :
    Calls Tryd.prog 53 #[.slice (some ⟨b, o, none⟩) s.size c] w (ITok w (if r.take P = [104, 105] ∨ r.take P = [108, 111] ∨ r.take P = [112, 99, 114, 101, 108] then .ok 4 (r.take P) 0 (P + 1) else .bad 2)) := by
  have hlen : r.length + 1 = s.size := by rw [← hr, List.length_drop, len_size]; omega
  have hple := pre_le goOn r
  rw [hP] at hple
  have h0i : (0 : Int) < s.size := by omega
  have h1i : (1 : Int) ≤ s.size := by omega
  have q1 := ba_beq (r.take P) [104, 105]
  have q2 := ba_beq (r.take P) [108, 111]
  have q3 := ba_beq (r.take P) [112, 99, 114, 101, 108]
  by_cases hc1 : c = 1
  · subst hc1
    have hP0 : P = 0 := by omega
    subst hP0
    rw [if_neg (by simp)]
    have HRUN := Lib.hid run_tail0
    have hcv := conv_bytes (hB.below ((Below.refl _ _).alloc (Nat.le_refl _) zerosI)) 0 0 0 (by omega)
    rw [show s.extract 0 (0 + 0) = ba [] from ba_eq (by rw [ext_take, ba_list]; rfl), Nat.add_zero] at hcv
    rw [List.take_zero] at q1 q2 q3
    rw [decide_eq_false (by simp)] at q1 q2 q3
    clear hlen hple hB hP
    go_enter Tryd.func53, Tryd.ntmps53
    go_wp2_with fail
    refine (HRUN.out _ _ _).mono ?_
    rintro e w' ⟨rfl, rfl⟩
    go_wp2_with fail
    exact bodyPost_ret (v := .tuple #[.agg #[.int .i64 0, .int .i64 0, .int .i64 0, .string ⟨#[]⟩, .int .u32 0, .int .i64 0], .int .i64 0, .iface 56 (.int .i64 2)]) (by simp [results, Tryd.results53, go_sem]; done) rfl ⟨rfl, ((Below.refl _ _).alloc (Nat.le_refl _) _)⟩
  · have h1c : (1 : Int) ≤ c := by omega
    have HRUN := Lib.hid (fun W hW => run_tail s b o (c - 1) P W hs (hB.below hW) (by rw [hr]; exact hP))
    have hp0 : (0 : Int) ≤ (P : Int) := by omega
    have hpi : ((1 : Int) + P) ≤ s.size := by omega
    have hpc : ((1 : Int) + P) ≤ c := by omega
    have hlo : (1 : Int) ≤ (1 : Int) + P := by omega
    have hcv := conv_bytes (hB.below ((Below.refl _ _).alloc (Nat.le_refl _) zerosI)) 1 P (c - 1) (by omega)
    have hlt : (((1 : Int) + (P : Int)).toNat - 1) = P := by omega
    rw [ext_tail s P, hr] at hcv
    clear hlen hple hB hP
    generalize r.take P = T at *
    by_cases e1 : T = [104, 105]
    · rw [if_pos (.inl e1)]
      rw [decide_eq_true e1] at q1
      clear e1 q2 q3
      go_enter Tryd.func53, Tryd.ntmps53
      go_wp2_with fail
      refine (HRUN.out _ ((Below.refl _ _).alloc (Nat.le_refl _) _)).mono ?_
      rintro e w' ⟨rfl, rfl⟩
      go_wp2_with fail
      exact bodyPost_ret (v := .tuple #[.agg #[.int .i64 4, .int .i64 0, .int .i64 0, .string (ba T), .int .u32 0, .int .i64 0], .int .i64 ((1 : Int) + P), .nilIface]) (by simp [results, Tryd.results53, go_sem]; done) rfl (itok_ok rfl rfl (by omega) ((Below.refl _ _).alloc (Nat.le_refl _) _))
    rw [decide_eq_false e1] at q1
    by_cases e2 : T = [108, 111]
    · rw [if_pos (.inr (.inl e2))]
      rw [decide_eq_true e2] at q2
      clear e1 e2 q3
      go_enter Tryd.func53, Tryd.ntmps53
      go_wp2_with fail
      refine (HRUN.out _ ((Below.refl _ _).alloc (Nat.le_refl _) _)).mono ?_
      rintro e w' ⟨rfl, rfl⟩
      go_wp2_with fail
      exact bodyPost_ret (v := .tuple #[.agg #[.int .i64 4, .int .i64 0, .int .i64 0, .string (ba T), .int .u32 0, .int .i64 0], .int .i64 ((1 : Int) + P), .nilIface]) (by simp [results, Tryd.results53, go_sem]; done) rfl (itok_ok rfl rfl (by omega) ((Below.refl _ _).alloc (Nat.le_refl _) _))
    rw [decide_eq_false e2] at q2
    by_cases e3 : T = [112, 99, 114, 101, 108]
    · rw [if_pos (.inr (.inr e3))]
      rw [decide_eq_true e3] at q3
      clear e1 e2 e3
      go_enter Tryd.func53, Tryd.ntmps53
      go_wp2_with fail
      refine (HRUN.out _ ((Below.refl _ _).alloc (Nat.le_refl _) _)).mono ?_
      rintro e w' ⟨rfl, rfl⟩
      go_wp2_with fail
      exact bodyPost_ret (v := .tuple #[.agg #[.int .i64 4, .int .i64 0, .int .i64 0, .string (ba T), .int .u32 0, .int .i64 0], .int .i64 ((1 : Int) + P), .nilIface]) (by simp [results, Tryd.results53, go_sem]; done) rfl (itok_ok rfl rfl (by omega) ((Below.refl _ _).alloc (Nat.le_refl _) _))
    rw [decide_eq_false e3] at q3
    rw [if_neg (fun h => h.elim e1 fun h => h.elim e2 e3)]
    clear e1 e2 e3
    go_enter Tryd.func53, Tryd.ntmps53
    go_wp2_with fail
    refine (HRUN.out _ ((Below.refl _ _).alloc (Nat.le_refl _) _)).mono ?_
    rintro e w' ⟨rfl, rfl⟩
    go_wp2_with fail
    exact bodyPost_ret (v := .tuple #[.agg #[.int .i64 0, .int .i64 0, .int .i64 0, .string ⟨#[]⟩, .int .u32 0, .int .i64 0], .int .i64 0, .iface 56 (.int .i64 2)]) (by simp [results, Tryd.results53, go_sem]; done) rfl ⟨rfl, ((Below.refl _ _).alloc (Nat.le_refl _) _)⟩
end Go.Proofs.YtbhfblogjlpnlaaDoor
