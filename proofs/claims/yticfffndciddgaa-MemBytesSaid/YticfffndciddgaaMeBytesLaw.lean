/-
  MemBytes returns true: so many bytes from anywhere on are what is there, what is told is the caller's own, a copy goes on by itself. Condition: none that a call's arguments don't bring.
-/
import Derived.Test.YticfffndciddgaaMeAwake
import Derived.Test.YticfffndciddgaaMeBytes
import Derived.Test.YticfffndciddgaaMeCopy
import Derived.Test.YticfffndciddgaaMeLight
import Derived.Test.YticfffndciddgaaMeRCells
import Derived.BigGuard
namespace Go.Proofs.Yticfffndciddgaa
open Go.RowKit Go.Maps

theorem acts_none (w : World) : ActsAt w none [] := ⟨fun i x hx => by simp at hx, fun x hx => by simp at hx⟩
theorem madeL_len (l : List (Int × Int)) : (madeL l).length ≤ l.length := by
  have := madeL_le l l.length
  rwa [List.take_length] at this

set_option maxRecDepth 100000 in
set_option maxHeartbeats 4000000 in
theorem bytes_walk {w : World} {A : Option Addr} {c n : Nat} {l : List (Int × Int)} (hn : l.length = n) (h : CellsAt w A l) (hlc : n ≤ c) (hcm : c ≤ maxLen) (a m v : Int) (a0 : 0 ≤ a) (a1 : a ≤ 4294967295) (v0 : 0 ≤ v) (v1 : v ≤ 4294967295) :
    Calls Try.prog 4 #[.slice A n c, .int .u32 a, .int .i64 m, .int .u32 v] w fun e w' => e = .returned (.bool true) ∧ Below w.heap.size w w' := by
  have HA := Lib.hid (awake_is w)
  have H := Lib.hid h
  have HN := Lib.hid hn
  have HL := Lib.hid fun W => light_is (C := A) (acts_none W) rfl (Nat.le_refl 0) (by simp [maxLen]) hlc hcm
  have HW := Lib.hid fun W (q : Below w.heap.size w W) (h3 : n ≤ 300) => HN.out ▸ new_is (c := c) (H.out.next q) (HN.out ▸ hlc) hcm (by rw [HN.out]; omega)
  have HV := Lib.hid fun W (q : Below w.heap.size w W) (h3 : n ≤ 300) => HN.out ▸ rnew_is (c := c) (H.out.next q) (HN.out ▸ hlc) hcm (by rw [HN.out]; omega)
  have hKm : min (max m 0) 65536 = ((many m : Nat) : Int) := by unfold many; omega
  obtain ⟨K, hK⟩ : ∃ K, many m = K := ⟨_, rfl⟩
  rw [hK] at hKm
  have HK := Lib.hid hK
  have hK4 : K ≤ 65536 := hK ▸ many_le m
  have hKI : ((K : Int) != (K : Int)) = false := by simp
  clear h hn hK
  go_enter Try.func4, Try.ntmps4
  go_wp2_with (first
    | (go_at_call 7; refine HA.out.mono ?_; rintro e w1 ⟨rfl, hb1⟩; have HB1 := Lib.hid hb1; have hs1 := hb1.size; clear hb1)
    | (go_at_call 8; refine (HL.out _).mono ?_; rintro e w1' ⟨q, rfl, rfl, hq⟩; clear HL)
    | (go_at_call 9; have h3 : n ≤ 300 := (hq (by have hx : (!q) = false := (by assumption); simpa using hx)).1; refine (HW.out _ HB1.out h3).mono ?_; rintro e w2 ⟨p, b, rfl, p0, b0, m2, s2⟩; have HM2 := Lib.hid (And.intro m2 (And.intro s2 (HB1.out.trans (s2.mono HB1.out.size)))); clear m2 s2 HB1 HW)
    | (go_at_call 10; refine (HV.out _ HM2.out.2.2 h3).mono ?_; rintro e w3 ⟨r, rfl, r3, s3⟩; have HM3 := Lib.hid (And.intro (HM2.out.1.next s3) (And.intro r3 (HM2.out.2.2.trans (s3.mono HM2.out.2.2.size)))); clear r3 s3 HM2 HV)
    | (go_at_call 20; refine (copy_is HM3.out.1).mono ?_; rintro e w4 ⟨pc, bc, rfl, pc0, bc0, m4, s4⟩; have HM4 := Lib.hid (And.intro m4 s4); clear m4 s4)
    | (go_at_call 21; have hy := bytes_is (HM3.out.1.next HM4.out.2) a m a0 a1; rw [HK.out] at hy; refine hy.mono ?_; rintro e w5 ⟨rfl, t5, s5⟩; have HM5 := Lib.hid (And.intro t5 s5); clear t5 s5 hy))
  · go_ret
    exact ⟨rfl, HB1.out⟩
  have hs3 := HM3.out.2.2.size
  have hs4 := HM4.out.2.size
  have HG := Lib.hid hq
  have hml : (madeL l).length ≤ 300 := Nat.le_trans (madeL_len l) (HN.out.symm ▸ h3)
  clear hq hKm HN H HA
  go_loopg [14] (K + 1) (fun k vi wr => ∃ i : Nat, vi = .int .i64 i ∧ i ≤ K ∧ K + 1 ≤ i + k ∧ Hid (wr.rowIs w4.heap.size 5 K (fun j => if j < i then .int .u8 (IntKind.u8.wrap (madeF l (adr a j) + 1)) else .int .u8 (madeF l (adr a j))) ∧ Below w4.heap.size w4 wr))
  case atStart => exact ⟨0, rfl, Nat.zero_le _, by omega, Lib.hid ⟨HM5.out.1.congr fun j _ => by rw [if_neg (Nat.not_lt_zero _)], HM5.out.2⟩⟩
  case round =>
    obtain ⟨i, rfl, hi, hk, HI⟩ := hrel
    have hA : IntKind.u32.wrap (a + (i : Int)) = adr a i := by rw [IntKind.wrap_u32]; rfl
    by_cases hlt : i < K ∧ i < 200
    · obtain ⟨hl1, hl2⟩ := hlt
      have hli : (i : Int) < K := by omega
      have hli2 : (i : Int) < 200 := by omega
      have hc0 := HI.out.1.cell hl1
      simp only [Nat.lt_irrefl, if_false] at hc0
      obtain ⟨Y, hY⟩ : ∃ Y, madeF l (adr a i) = Y := ⟨_, rfl⟩
      rw [hY] at hc0
      have hYY : (Y != Y) = false := by simp
      have HAT : Hid (∀ k, Calls Try.prog 22 #[.pointer (some ⟨r, 0, none⟩), .int .u32 (adr a i)] (wr.drewN k) fun e w' => e = .returned (.int .u8 Y) ∧ w' = wr.drewN k) := Lib.hid fun k => by
        have hat := at_is (((HM3.out.2.1.next HM4.out.2).next HI.out.2).next (bdrew (n := k) (Below.refl wr.heap.size wr))) (adr a i) (Nat.le_trans hml (by omega))
        rwa [look_made, hY] at hat
      go_wp2_with fail
      go_quiet (first | (go_at_call 22; refine Calls.quiet_of_same (HAT.out _)))
      have hrw : ∀ k, (wr.drewN k).rowIs w4.heap.size 5 K (fun j => if j < i then .int .u8 (IntKind.u8.wrap (madeF l (adr a j) + 1)) else .int .u8 (madeF l (adr a j))) := fun k => HI.out.1.of_block rfl
      have hbw : ∀ k, Below w4.heap.size w4 (wr.drewN k) := fun k => bdrew HI.out.2
      generalize hq : wr.drewN _ = wq
      have HQ := Lib.hid (And.intro (hq ▸ hrw _) (hq ▸ hbw _))
      clear hq hrw hbw hc0
      have hc1 := HQ.out.1.cell hl1
      simp only [Nat.lt_irrefl, if_false] at hc1
      rw [hY] at hc1
      have hf1 := HQ.out.1.frozen i
      obtain ⟨Z, hZ⟩ : ∃ Z, IntKind.u8.wrap (Y + 1) = Z := ⟨_, rfl⟩
      have HX : Hid ((wq.setCell ⟨w4.heap.size, i, none⟩ (.int .u8 Z)).rowIs w4.heap.size 5 K (fun j => if j < i + 1 then .int .u8 (IntKind.u8.wrap (madeF l (adr a j) + 1)) else .int .u8 (madeF l (adr a j))) ∧ Below w4.heap.size w4 (wq.setCell ⟨w4.heap.size, i, none⟩ (.int .u8 Z))) := Lib.hid ⟨(HQ.out.1.set i _).congr fun j hj => by
        by_cases q : j = i
        · subst q
          rw [if_pos rfl, if_pos (Nat.lt_succ_self _), hY, hZ]
        · rw [if_neg q]
          by_cases q2 : j < i
          · rw [if_pos q2, if_pos (by omega)]
          · rw [if_neg q2, if_neg (by omega)], HQ.out.2.setCell (p := ⟨w4.heap.size, i, none⟩) (Nat.le_refl _) _⟩
      clear hY hYY
      go_wp2_with fail
      go_roundg (K - i)
      case measure => omega
      case rel => exact ⟨i + 1, by go_num, by omega, by omega, HX⟩
    · have HB := Lib.hid (HM4.out.2.trans (HI.out.2.mono hs4))
      have HS := Lib.hid (store_is (HM4.out.1.next HI.out.2) a v 4 a0 a1 v0 v1 (by omega))
      have hsr : w3.heap.size ≤ wr.heap.size := HB.out.size
      have hvv : (v == v) = true := by simp
      by_cases hl1 : i < K
      case' pos =>
        have hli : (i : Int) < K := by omega
        have hli2 : ¬ (i : Int) < 200 := by omega
      case' neg =>
        have hli : ¬ (i : Int) < K := by omega
      all_goals
        go_wp2_with (first
          | (go_at_call 11; refine HS.out.mono ?_; rintro e w6 ⟨rfl, m6, g6⟩; rw [wid_four] at m6; have HM6 := Lib.hid (And.intro m6 (HB.out.grown g6 hsr (fun k e => by injection e with e; omega))); clear m6 g6 HS)
          | (have stage := HM6; go_at_call 18; refine (cells_is (HM3.out.1.next HM6.out.2) (by omega)).mono ?_; rintro e w7 ⟨A7, c7, r7, rfl, y1, y2, y3, y4, y5, y6⟩; have HM7 := Lib.hid (And.intro (HM6.out.1.next y6) (And.intro (HM6.out.2.trans (y6.mono HM6.out.2.size)) (And.intro y3 y4))); clear y3 y4 y6 stage HM6)
          | (go_at_call 19; refine (rcells_is (HM3.out.2.1.next HM7.out.2.1) (Nat.le_trans hml (by omega))).mono ?_; rintro e w8 ⟨A8, c8, r8, rfl, z1, z2, z3, z4, z5, z6⟩; obtain rfl : r8 = r7 := z3.eq (HM7.out.2.2.1.congr fun x _ _ => (look_made l x).symm); have HM8 := Lib.hid (And.intro (HM7.out.1.next z6) (And.intro (HM7.out.2.1.trans (z6.mono HM7.out.2.1.size)) (same_is (HM7.out.2.2.2.next z6) z4 y1 z1 y2 z2))); clear z3 z4 z6 HM7)
          | (go_at_call 17; refine HM8.out.2.2.mono ?_; rintro e w9 ⟨rfl, x1⟩; have HLD := load_is (HM8.out.1.next x1) a 4 a0 a1; rw [wid_four, load_four (madeF l) a v v0 v1] at HLD; have HM9 := Lib.hid (And.intro HLD (HM3.out.2.2.trans ((HM8.out.2.1.trans (x1.mono HM8.out.2.1.size)).mono hs3))); clear HLD x1 HM8)
          | (go_at_call 15; refine HM9.out.1.mono ?_; rintro e w10 ⟨rfl, rfl⟩))
        go_ret
        exact ⟨rfl, HM9.out.2⟩
end Go.Proofs.Yticfffndciddgaa
