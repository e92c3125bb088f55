/-
  MemParts returns true: four bytes stored at once are four bytes stored one by one. Condition: none that a call's arguments don't bring.
-/
import Derived.Test.YtbhfblogjlpnlaaMeAwake
import Derived.BigGuard
namespace Go.Proofs.Ytbhfblogjlpnlaa
open Go.RowKit Go.Maps

theorem laid_one (v a : Int) (k : Nat) (F : Int → Int) : laidF (byteAt (v / 2 ^ (8 * k))) F (adr a k) (wid 1) = upd F (adr a k) (byteAt v k) := by
  have : byteAt (v / 2 ^ (8 * k)) 0 = byteAt v k := by simp [byteAt]
  rw [wid_one, laidF, laidF, adr_adr, this, Nat.add_zero]
theorem parts_next (v a : Int) (k : Nat) (F : Int → Int) (hk : k + 1 ≤ 4) : partsF v F a (4 - k) = upd (partsF v F a (4 - (k + 1))) (adr a k) (byteAt v k) := by
  obtain ⟨j, hj⟩ : ∃ j, 4 - (k + 1) = j := ⟨_, rfl⟩
  rw [show 4 - k = j + 1 by omega, hj]
  rw [partsF, show 3 - j = k by omega]
theorem parts_load (v a : Int) (F : Int → Int) (x : Int) (m : Nat) : loadF (partsF v F a 4) x m = loadF (laidF (byteAt v) F a 4) x m := load_congr m fun k _ => parts_four v F a _

set_option maxRecDepth 100000 in
set_option maxHeartbeats 4000000 in
theorem parts_walk {w : World} {A : Option Addr} {c n : Nat} {l : List (Int × Int)} (hn : l.length = n) (h : CellsAt w A l) (hlc : n ≤ c) (hcm : c ≤ maxLen) (a v : Int) (a0 : 0 ≤ a) (a1 : a ≤ 4294967295) (v0 : 0 ≤ v) (v1 : v ≤ 4294967295) :
    Calls Try.prog 5 #[.slice A n c, .int .u32 a, .int .u32 v] w fun e w' => e = .returned (.bool true) ∧ Below w.heap.size w w' := by
  have HA := Lib.hid (awake_is w)
  have H := Lib.hid h
  have HN := Lib.hid hn
  clear h hn
  go_enter Try.func5, Try.ntmps5
  by_cases hb : 300 < n
  · have hbi : (300 : Int) < n := by omega
    go_wp2_with (go_at_call 7; refine HA.out.mono ?_; rintro e w1 ⟨rfl, hb1⟩)
    go_ret
    exact ⟨rfl, hb1⟩
  have hbi : ¬ (300 : Int) < n := by omega
  have HW := Lib.hid fun W (q : Below w.heap.size w W) => HN.out ▸ new_is (c := c) (H.out.next q) (HN.out ▸ hlc) hcm (by rw [HN.out]; omega)
  go_wp2_with (first
    | (go_at_call 7; refine HA.out.mono ?_; rintro e w1 ⟨rfl, hb1⟩; have HB1 := Lib.hid hb1; have hs1 := hb1.size; clear hb1)
    | (have stage := HB1; go_at_call 9; refine (HW.out _ HB1.out).mono ?_; rintro e w2 ⟨p, b, rfl, p0, b0, m2, s2⟩; have HM2 := Lib.hid (And.intro m2 (And.intro s2 (HB1.out.trans (s2.mono HB1.out.size)))); clear m2 s2 stage HB1)
    | (go_at_call 9; refine (HW.out _ HM2.out.2.2).mono ?_; rintro e w3 ⟨q, d, rfl, q0, d0, m3, s3⟩; have HM3 := Lib.hid (And.intro (HM2.out.1.next s3) (And.intro m3 (HM2.out.2.2.trans (s3.mono HM2.out.2.2.size)))); have HD := Lib.hid (And.intro HM2.out.1.lt (And.intro HM2.out.2.2.size s3.size)); clear m3 s3 HM2)
    | (go_at_call 11; refine (store_is HM3.out.1 a v 4 a0 a1 v0 v1 (by omega)).mono ?_; rintro e w4 ⟨rfl, m4, g4⟩))
  rw [wid_four] at m4
  obtain ⟨⟨hp2, hb2, _⟩, hs2, hs3⟩ := HD.out
  have HK4 : Hid (MemIs w4 q d n (madeF l) ∧ MemIs w4 p b (n + 4) (laidF (byteAt v) (madeF l) a 4) ∧ Below w.heap.size w w4) := Lib.hid ⟨HM3.out.2.1.kept g4 (fun k => by injection k with k; omega) (fun k => by injection k with k; omega), m4, HM3.out.2.2.grown g4 (by omega) (fun k e => by injection e with e; omega)⟩
  have hgs := g4.size
  clear m4 g4 HM3
  go_loopg [9] 5 (fun fu vi wr => ∃ t : Nat, vi = .int .i64 ((t : Int) - 1) ∧ t ≤ 4 ∧ t + 1 ≤ fu ∧ Hid (MemIs wr q d (n + (4 - t)) (partsF v (madeF l) a (4 - t)) ∧ w4.grownBy wr (some d)))
  case atStart => exact ⟨4, rfl, Nat.le_refl _, by omega, Lib.hid ⟨HK4.out.1, World.grownBy.refl _ _⟩⟩
  case round =>
    obtain ⟨t, hvi, ht, hf, HI⟩ := hrel
    cases t with
    | succ k =>
      rw [show ((k + 1 : Nat) : Int) - 1 = (k : Int) by omega] at hvi
      subst hvi
      have hk0 : (0 : Int) ≤ (k : Int) := by omega
      have hA : IntKind.u32.wrap (a + (k : Int)) = adr a k := by rw [IntKind.wrap_u32]; rfl
      have hv0 : 0 ≤ v / 2 ^ (8 * k) := Int.ediv_nonneg v0 (Int.le_of_lt (Int.pow_pos (by omega)))
      have hv1 : v / 2 ^ (8 * k) ≤ 4294967295 := Int.le_trans (Int.ediv_le_self _ v0) v1
      have HS := Lib.hid (store_is HI.out.1 (adr a k) (v / 2 ^ (8 * k)) 1 (adr_lo a k) (adr_hi a k) hv0 hv1 (by omega))
      clear hv0 hv1
      go_wp2_with (go_at_call 11; refine HS.out.mono ?_; rintro e w5 ⟨rfl, m5, g5⟩)
      rw [laid_one, wid_one, ← parts_next v a k (madeF l) ht, show n + (4 - (k + 1)) + 1 = n + (4 - k) by omega] at m5
      have HX := Lib.hid (And.intro m5 (HI.out.2.trans g5))
      clear m5 g5
      go_roundg (k + 1)
      case measure => omega
      case rel => exact ⟨k, by go_num, by omega, by omega, HX⟩
    | zero =>
      rw [show ((0 : Nat) : Int) - 1 = (-1 : Int) by omega] at hvi
      subst hvi
      have hA2 : IntKind.u32.wrap (a + 2) = adr a 2 := by rw [IntKind.wrap_u32]; rfl
      have hb5 : Below w.heap.size w wr := HK4.out.2.2.grown HI.out.2 (by omega) (fun k e => by injection e with e; omega)
      have hm5 := HK4.out.2.1.kept HI.out.2 (fun k => by injection k with k; omega) (fun k => by injection k with k; omega)
      have hk5 : MemIs wr q d (n + 4) (partsF v (madeF l) a 4) := HI.out.1
      have HP := Lib.hid (And.intro hm5 (And.intro hk5 hb5))
      clear hk5
      have HC := Lib.hid (cells_is hm5 (by omega))
      have hx := load_twice (madeF l) a v v0 v1
      obtain ⟨X, hX⟩ : ∃ X, loadF (laidF (byteAt v) (madeF l) a 4) a 2 = X := ⟨_, rfl⟩
      obtain ⟨Y, hY⟩ : ∃ Y, loadF (laidF (byteAt v) (madeF l) a 4) (adr a 2) 2 = Y := ⟨_, rfl⟩
      rw [hX, hY] at hx
      have hX0 : 0 ≤ X := hX ▸ (loadF_ok hm5.byte a 2).1
      have hY0 : 0 ≤ Y := hY ▸ (loadF_ok hm5.byte (adr a 2) 2).1
      have hZ1 : IntKind.u32.wrap (Y * 65536) = Y * 65536 := by rw [IntKind.wrap_u32]; omega
      have hZ2 : IntKind.u32.wrap (X + Y * 65536) = v := by rw [IntKind.wrap_u32]; omega
      have HF := Lib.hid (And.intro (load_four (madeF l) a v v0 v1) (And.intro hX hY))
      clear hX hY hm5 hb5 hx
      go_wp2_with (first
        | (have stage := HC; go_at_call 18; refine HC.out.mono ?_; rintro e w6 ⟨A6, c6, r6, rfl, y1, y2, y3, y4, y5, y6⟩; have HQ := Lib.hid (And.intro y3 (And.intro y4 (And.intro y6 (cells_is (HP.out.2.1.next y6) (by omega))))); clear y3 y4 y6 stage HC)
        | (go_at_call 18; refine HQ.out.2.2.2.mono ?_; rintro e w7 ⟨A7, c7, r7, rfl, z1, z2, z3, z4, z5, z6⟩; obtain rfl : r7 = r6 := z3.eq (HQ.out.1.congr fun x _ _ => (parts_four v (madeF l) a x).symm); have HT := Lib.hid (And.intro (HQ.out.2.2.1.trans (z6.mono HQ.out.2.2.1.size)) (same_is (HQ.out.2.1.next z6) z4 y1 z1 y2 z2)); clear z3 z4 z6)
        | (go_at_call 17; refine HT.out.2.mono ?_; rintro e w8 ⟨rfl, x1⟩; have hz := HT.out.1.trans (x1.mono HT.out.1.size); have HL4 := Lib.hid (load_is (HP.out.1.next hz) a 4 a0 a1); have HL2 := Lib.hid (load_is (HP.out.2.1.next hz) a 2 a0 a1); have HL3 := Lib.hid (load_is (HP.out.2.1.next hz) (adr a 2) 2 (adr_lo a 2) (adr_hi a 2)); rw [wid_four, HF.out.1] at HL4; rw [wid_two, parts_load, HF.out.2.1] at HL2; rw [wid_two, parts_load, HF.out.2.2] at HL3; have HE := Lib.hid (HP.out.2.2.trans (hz.mono HP.out.2.2.size)); clear x1 hz)
        | (go_at_call 15; refine HL4.out.mono ?_; rintro e w9 ⟨rfl, rfl⟩; clear HL4)
        | (go_at_call 15; refine HL2.out.mono ?_; rintro e w9 ⟨rfl, rfl⟩; clear HL2)
        | (go_at_call 15; refine HL3.out.mono ?_; rintro e w9 ⟨rfl, rfl⟩; clear HL3))
      go_ret
      exact ⟨rfl, HE.out⟩
end Go.Proofs.Ytbhfblogjlpnlaa
