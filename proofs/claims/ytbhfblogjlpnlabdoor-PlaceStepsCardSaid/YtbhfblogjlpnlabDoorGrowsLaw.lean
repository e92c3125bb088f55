/-
  The law PlaceGrows answers true. Conditions: the handle of the type error; the items' and the sizes' cells are there; numbers in their bounds.
-/
import Derived.Test.YtbhfblogjlpnlabDoorLiesLaw
import Derived.Deep.LoopGhost
import Derived.Deep.DeepCutAuto
import Derived.WalkLawsBesides
namespace Go.Proofs.YtbhfblogjlpnlabDoor
open Go.RowKit

/-- The lesser of two sizes that are said of an item; the greater. -/
def fewS (S1 : Nat → Int) (m1 : Nat) (S2 : Nat → Int) (m2 k : Nat) : Int := min (sizeOf_ S1 m1 k) (sizeOf_ S2 m2 k)
def moreS (S1 : Nat → Int) (m1 : Nat) (S2 : Nat → Int) (m2 k : Nat) : Int := max (sizeOf_ S1 m1 k) (sizeOf_ S2 m2 k)

/-! With more bytes nothing lies lower. -/
theorem bytesN_free {t : Itm} (h1 : t.K ≠ 10) (h2 : t.K ≠ 11) (s a b : Int) : bytesN t s a b = if Lead t.K then min (max s 0) 8 else fixedN t := by
  unfold bytesN
  rw [if_neg h1, if_neg h2]
theorem by_le {F : Nat → Itm} {S1 : Nat → Int} {m1 : Nat} {S2 : Nat → Int} {m2 n k : Nat} {base : Int} (hk : k < n) (h1 : (F k).K ≠ 10) (h2 : (F k).K ≠ 11) :
    Pl.by_ ⟨F, fewS S1 m1 S2 m2, n, n, base⟩ k ≤ Pl.by_ ⟨F, moreS S1 m1 S2 m2, n, n, base⟩ k := by
  unfold Pl.by_ Pl.sizeAt
  rw [bytesN_free h1 h2, bytesN_free h1 h2]
  simp only [sizeOf_, if_pos hk, fewS, moreS]
  split <;> omega
theorem at_le {F : Nat → Itm} {S1 : Nat → Int} {m1 : Nat} {S2 : Nat → Int} {m2 n : Nat} {base : Int} (hfree : ∀ j, j < n → (F j).K ≠ 10 ∧ (F j).K ≠ 11) :
    ∀ k, k ≤ n → Pl.at_ ⟨F, fewS S1 m1 S2 m2, n, n, base⟩ k ≤ Pl.at_ ⟨F, moreS S1 m1 S2 m2, n, n, base⟩ k := by
  intro k
  induction k with
  | zero => intro _; exact Int.le_refl _
  | succ k ih =>
    intro hk
    have h := ih (by omega)
    have h2 := by_le (S1 := S1) (m1 := m1) (S2 := S2) (m2 := m2) (base := base) (show k < n by omega) (hfree k (by omega)).1 (hfree k (by omega)).2
    rw [Pl.at_succ, Pl.at_succ]
    omega
theorem at_right {p : Pl} (b0 : 0 ≤ p.base) (b1 : p.base < 4294967296) (h : ∀ k, k < p.n → p.wrong k = 0) : ∀ k, k ≤ p.n → p.base ≤ p.at_ k ∧ p.at_ k ≤ 4294967295 := by
  intro k
  induction k with
  | zero => intro _; exact ⟨Int.le_refl _, by show p.base ≤ _; omega⟩
  | succ k ih =>
    intro hk
    have h1 := ih (by omega)
    have h2 := wrong_zero (h k (by omega))
    rw [Pl.at_succ]
    omega

theorem Tryd.infoInt : (Tryd.prog.info? 3).map (fun i => (i.zero, i.size, i.bytes)) = some (some (.int .i64 0), 1, 8) := by kernel_rfl

/-- What holds at the first loop's head: two lists of sizes of the call's own. -/
structure GrInv (F : Nat → Itm) (S1 : Nat → Int) (m1 : Nat) (S2 : Nat → Int) (m2 : Nat) (w0 : World) (k : Nat) (va vb : Value) (wr : World) : Prop where
  ra : wr.ownsRow w0.heap.size 3 1 va k ((List.range k).map fun j => .int .i64 (fewS S1 m1 S2 m2 j))
  rb : wr.ownsRow w0.heap.size 3 1 vb k ((List.range k).map fun j => .int .i64 (moreS S1 m1 S2 m2 j))
  ne : va.ownBlock = none ∨ va.ownBlock ≠ vb.ownBlock
  kinds : ∀ j, j < k → (F j).K ≠ 10 ∧ (F j).K ≠ 11
  below : Below w0.heap.size w0 wr

theorem range_ints (V : Nat → Int) (k : Nat) : ((List.range k).map fun j => Value.int .i64 (V j)) ++ [.int .i64 (V k)] = (List.range (k + 1)).map fun j => Value.int .i64 (V j) := by
  rw [List.range_succ]; simp

section
variable {F : Nat → Itm} {S1 : Nat → Int} {m1 : Nat} {S2 : Nat → Int} {m2 : Nat} {w0 wr w2 w4 : World} {k : Nat} {va vb va' vb' : Value} {o1 o2 : Obj}
theorem gr_second (hI : GrInv F S1 m1 S2 m2 w0 k va vb wr) (gA : (wr.alloc o1).grownBy w2 va.ownBlock) :
    w2.ownsRow w0.heap.size 3 1 vb k ((List.range k).map fun j => .int .i64 (moreS S1 m1 S2 m2 j)) := by
  refine (hI.rb.alloc o1).kept gA ?_
  rcases hI.ne with h | h
  · rw [h]; cases vb.ownBlock <;> simp
  · exact .inr (fun e => h e.symm)
theorem gr_next (hI : GrInv F S1 m1 S2 m2 w0 k va vb wr) (hk : (F k).K ≠ 10 ∧ (F k).K ≠ 11)
    (hA : w2.ownsRow w0.heap.size 3 1 va' (k + 1) (((List.range k).map fun j => .int .i64 (fewS S1 m1 S2 m2 j)) ++ [.int .i64 (fewS S1 m1 S2 m2 k)])) (gA : (wr.alloc o1).grownBy w2 va.ownBlock)
    (eA : va'.ownBlock = va.ownBlock ∨ va'.ownBlock = some (wr.alloc o1).heap.size)
    (hB : w4.ownsRow w0.heap.size 3 1 vb' (k + 1) (((List.range k).map fun j => .int .i64 (moreS S1 m1 S2 m2 j)) ++ [.int .i64 (moreS S1 m1 S2 m2 k)])) (gB : (w2.alloc o2).grownBy w4 vb.ownBlock)
    (eB : vb'.ownBlock = vb.ownBlock ∨ vb'.ownBlock = some (w2.alloc o2).heap.size) : GrInv F S1 m1 S2 m2 w0 (k + 1) va' vb' w4 := by
  have hsz := hI.below.size
  have hs2 := gA.size
  have hs4 := gB.size
  simp at hs2 hs4
  have hR2 := gr_second hI gA
  have hne : va'.ownBlock = none ∨ va'.ownBlock ≠ vb.ownBlock := by
    rcases eA with e | e
    · rw [e]; exact hI.ne
    · right
      rw [e]
      intro h
      have := (hI.rb.lt _ h.symm).2
      simp at this
      omega
  refine ⟨?_, by rw [← range_ints]; exact hB, ?_, ?_, ?_⟩
  · rw [← range_ints]
    exact (hA.alloc o2).kept gB hne
  · rcases eB with e | e
    · rw [e]; exact hne
    · right
      rw [e]
      intro h
      have := (hA.lt _ h).2
      simp at this
      omega
  · intro j hj
    rcases Nat.lt_or_ge j k with h | h
    · exact hI.kinds j h
    · obtain rfl : j = k := by omega
      exact hk
  · have b1 := hI.below.alloc hsz o1
    have b2 := b1.grown gA (by simp; omega) (fun x hx => (hI.ra.lt x hx).1)
    have b3 := b2.alloc b2.size o2
    exact b3.grown gB (by have := b2.size; simp; omega) (fun x hx => (hI.rb.lt x hx).1)
end

theorem SzsB.of_row {w : World} {b0 n : Nat} {V : Nat → Int} {v : Value} (h : w.ownsRow b0 3 1 v n ((List.range n).map fun j => .int .i64 (V j))) : ∃ A c, v = .slice A n c ∧ SzsB w.heap.size V w A n := by
  rcases h.2 with ⟨rfl, hx⟩ | ⟨g, cap, cur, rfl, r⟩
  · subst hx
    exact ⟨none, 0, rfl, fun j hj => absurd hj (by omega)⟩
  · refine ⟨_, _, rfl, fun j hj => ⟨g, 0, rfl, (h.lt g rfl).2, ?_⟩⟩
    rw [Nat.zero_add, h.cellAt j (by omega)]
    simp [hj]

theorem words_at {V : Nat → Int} {w : World} {g n j : Nat} (h : U32In V w (some ⟨g, 0, none⟩) n) (hj : j < n) : w.cell? ⟨g, j, none⟩ = some (.int .u32 (V j)) := by
  obtain ⟨B, O, hA, hc⟩ := h j hj
  cases hA
  simpa using hc
theorem u32_in {a b : Int} (h : a = b) (h0 : 0 ≤ b) (h1 : b ≤ 4294967295) : IntKind.u32.wrap a = b := by
  subst h
  simp [IntKind.wrap, IntKind.bits, IntKind.signed]
  omega

set_option maxRecDepth 100000 in
set_option maxHeartbeats 4000000 in
theorem grows_law (A : Option Addr) (n cap : Nat) (A1 : Option Addr) (m1 c1 : Nat) (A2 : Option Addr) (m2 c2 : Nat) (base : Int) (F : Nat → Itm) (S1 S2 : Nat → Int) (W : World) (hg : Handle W) (ha : PlaceArgs W A n F) (hS1 : SzsB W.heap.size S1 W A1 m1) (hS2 : SzsB W.heap.size S2 W A2 m2) (b0 : 0 ≤ base) (b1 : base < 4294967296) :
    Calls Tryd.prog 10 #[.slice A n cap, .slice A1 m1 c1, .slice A2 m2 c2, .int .u32 base] W fun e w' => e = .returned (.bool true) ∧ Below W.heap.size W w' := by
  obtain ⟨i0, hi0, hz0, hz1, hz2⟩ := info_parts Tryd.infoInt
  have HA := Lib.hid ha
  have HS1 := Lib.hid hS1
  have HS2 := Lib.hid hS2
  have HG := Lib.hid hg
  clear ha hS1 hS2
  go_enter Tryd.func10, Tryd.ntmps10
  go_wp2_with fail
  refine (awake_any W hg).mono ?_
  rintro e w1 ⟨rfl, hb1⟩
  have HB1 := Lib.hid hb1
  clear hb1 hg
  go_wp2_with fail
  refine (light_any F A n cap w1 HA.out.few (HA.out.its.at_ HB1.out) HA.out.nm).mono ?_
  rintro e w2 ⟨r, rfl, hr, hb2⟩
  have HB2 := Lib.hid (HB1.out.trans (hb2.mono HB1.out.size))
  have HR := Lib.hid hr
  clear hb2 hr
  cases r with
  | false =>
    go_wp2
    go_ret
    exact ⟨rfl, HB2.out⟩
  | true =>
    obtain ⟨hfew, hnm⟩ := HR.out rfl
    have HNM := Lib.hid hnm
    clear hnm
    go_wp2_with fail
    go_loopg [9, 10, 11] n (fun g va vb i wr => ∃ k : Nat, k + g = n ∧ i = .int .i64 k ∧ GrInv F S1 m1 S2 m2 w2 k va vb wr)
    case atStart => exact ⟨0, Nat.zero_add _, rfl, World.ownsRow_nil _ _ _ _, World.ownsRow_nil _ _ _ _, .inl rfl, fun j hj => absurd hj (by omega), Below.refl _ _⟩
    case round =>
      obtain ⟨k, hk, rfl, hI⟩ := hrel
      have hk' : k ≤ n := by omega
      have HK := Lib.hid hk
      have HI := Lib.hid hI
      clear hk hI
      by_cases hlt : k < n
      · obtain ⟨B, O, hA, hB, hit⟩ := (HA.out.its.at_ (HB2.out.trans (HI.out.below.mono HB2.out.size))) k hlt
        subst hA
        have q0 := hit.c0
        clear hit hB
        by_cases h10 : (F k).K = 10
        · have h10' : ((F k).K == 10) = true := by simp [h10]
          clear h10
          go_wp2_with fail
          go_ret
          exact ⟨rfl, HB2.out.trans (HI.out.below.mono HB2.out.size)⟩
        · by_cases h11 : (F k).K = 11
          · have h10' : ((F k).K == 10) = false := by simp [h10]
            have h11' : ((F k).K == 11) = true := by simp [h11]
            clear h10 h11
            go_wp2_with fail
            go_ret
            exact ⟨rfl, HB2.out.trans (HI.out.below.mono HB2.out.size)⟩
          · have h10' : ((F k).K == 10) = false := by simp [h10]
            have h11' : ((F k).K == 11) = false := by simp [h11]
            have HKK : Hid ((F k).K ≠ 10 ∧ (F k).K ≠ 11) := Lib.hid ⟨h10, h11⟩
            clear h10 h11
            have HS1k := Lib.hid ((HS1.out.at_ (HB2.out.trans (HI.out.below.mono HB2.out.size))))
            have HS2k := Lib.hid ((HS2.out.at_ (HB2.out.trans (HI.out.below.mono HB2.out.size))))
            go_upto_if 47 with fail
            go_cut [12] (fun x wx => x = .int .i64 (sizeOf_ S1 m1 k) ∧ wx = wr)
            case first =>
              by_cases hm : k < m1
              · obtain ⟨B1, O1, hA1, _, hc1⟩ := HS1k.out k hm
                subst hA1
                have hv : Hid (sizeOf_ S1 m1 k = S1 k) := if_pos hm
                go_wp2_with fail
                go_meet
                case rel => exact ⟨by rw [hv.out], rfl⟩
              · have hv : Hid (sizeOf_ S1 m1 k = 0) := if_neg hm
                go_wp2_with fail
                go_meet
                case rel => exact ⟨by rw [hv.out], rfl⟩
            case rest =>
              obtain ⟨rfl, rfl⟩ := hcut
              go_upto_if 55 with fail
              go_cut [13] (fun y wx => y = .int .i64 (sizeOf_ S2 m2 k) ∧ wx = wc)
              case first =>
                by_cases hm : k < m2
                · obtain ⟨B1, O1, hA1, _, hc1⟩ := HS2k.out k hm
                  subst hA1
                  have hv : Hid (sizeOf_ S2 m2 k = S2 k) := if_pos hm
                  go_wp2_with fail
                  go_meet
                  case rel => exact ⟨by rw [hv.out], rfl⟩
                · have hv : Hid (sizeOf_ S2 m2 k = 0) := if_neg hm
                  go_wp2_with fail
                  go_meet
                  case rel => exact ⟨by rw [hv.out], rfl⟩
              case rest =>
                obtain ⟨rfl, hwc⟩ := hcut
                subst hwc
                have hsz2 := HI.out.below.size
                obtain ⟨X, hX⟩ : ∃ X, sizeOf_ S1 m1 k = X := ⟨_, rfl⟩
                obtain ⟨Y, hY⟩ : ∃ Y, sizeOf_ S2 m2 k = Y := ⟨_, rfl⟩
                rw [hX, hY]
                have HX := Lib.hid hX
                have HY := Lib.hid hY
                clear hX hY
                rcases Int.lt_trichotomy X Y with hxy | hxy | hxy
                · have HFe : Hid (fewS S1 m1 S2 m2 k = X) := Lib.hid (by unfold fewS; rw [HX.out, HY.out]; omega)
                  have HMo : Hid (moreS S1 m1 S2 m2 k = Y) := Lib.hid (by unfold moreS; rw [HX.out, HY.out]; omega)
                  go_wp2_with (first | (at_builtin; refine wpList_append_own_at _ rfl (.tmp 60) (.tmp 64) 68 rfl w2.heap.size 3 i0 (.int .i64 0) 1 8 Tryd.underlying68 hi0 hz0 hz1 hz2 rfl (by decide) _ _ _ rfl (HI.out.ra.alloc _) ⟨wc.heap.size, 0, none⟩ 1 1 [.int .i64 X] rfl rfl (cell_one_new _ _ _) (by intro u hu; simp at hu; subst hu; rfl) (by unfold maxLen; omega) (by omega) (by simp; omega) ?_; intro va' wA hAA gA _ eA; have RB := Lib.hid (gr_second HI.out gA); have SA := gA.size; simp at SA; have HAA := Lib.hid hAA; have GA := Lib.hid gA; have EA := Lib.hid eA; clear hAA gA eA) | (at_builtin; refine wpList_append_own_at _ rfl (.tmp 66) (.tmp 70) 68 rfl w2.heap.size 3 i0 (.int .i64 0) 1 8 Tryd.underlying68 hi0 hz0 hz1 hz2 rfl (by decide) _ _ _ rfl (RB.out.alloc _) ⟨wA.heap.size, 0, none⟩ 1 1 [.int .i64 Y] rfl rfl (cell_one_new _ _ _) (by intro u hu; simp at hu; subst hu; rfl) (by unfold maxLen; omega) (by omega) (by simp; omega) ?_; intro vb' wB hBB gB _ eB; have HBB := Lib.hid hBB; have GB := Lib.hid gB; have EB := Lib.hid eB; clear hBB gB eB))
                  go_roundg (gk - 1)
                  case measure => have := HK.out; omega
                  case rel => exact ⟨k + 1, by have := HK.out; omega, by go_num, gr_next HI.out HKK.out (by rw [HFe.out]; exact HAA.out) GA.out EA.out (by rw [HMo.out]; exact HBB.out) GB.out EB.out⟩
                · subst hxy
                  have HFe : Hid (fewS S1 m1 S2 m2 k = X) := Lib.hid (by unfold fewS; rw [HX.out, HY.out]; omega)
                  have HMo : Hid (moreS S1 m1 S2 m2 k = X) := Lib.hid (by unfold moreS; rw [HX.out, HY.out]; omega)
                  go_wp2_with (first | (at_builtin; refine wpList_append_own_at _ rfl (.tmp 60) (.tmp 64) 68 rfl w2.heap.size 3 i0 (.int .i64 0) 1 8 Tryd.underlying68 hi0 hz0 hz1 hz2 rfl (by decide) _ _ _ rfl (HI.out.ra.alloc _) ⟨wc.heap.size, 0, none⟩ 1 1 [.int .i64 X] rfl rfl (cell_one_new _ _ _) (by intro u hu; simp at hu; subst hu; rfl) (by unfold maxLen; omega) (by omega) (by simp; omega) ?_; intro va' wA hAA gA _ eA; have RB := Lib.hid (gr_second HI.out gA); have SA := gA.size; simp at SA; have HAA := Lib.hid hAA; have GA := Lib.hid gA; have EA := Lib.hid eA; clear hAA gA eA) | (at_builtin; refine wpList_append_own_at _ rfl (.tmp 66) (.tmp 70) 68 rfl w2.heap.size 3 i0 (.int .i64 0) 1 8 Tryd.underlying68 hi0 hz0 hz1 hz2 rfl (by decide) _ _ _ rfl (RB.out.alloc _) ⟨wA.heap.size, 0, none⟩ 1 1 [.int .i64 X] rfl rfl (cell_one_new _ _ _) (by intro u hu; simp at hu; subst hu; rfl) (by unfold maxLen; omega) (by omega) (by simp; omega) ?_; intro vb' wB hBB gB _ eB; have HBB := Lib.hid hBB; have GB := Lib.hid gB; have EB := Lib.hid eB; clear hBB gB eB))
                  go_roundg (gk - 1)
                  case measure => have := HK.out; omega
                  case rel => exact ⟨k + 1, by have := HK.out; omega, by go_num, gr_next HI.out HKK.out (by rw [HFe.out]; exact HAA.out) GA.out EA.out (by rw [HMo.out]; exact HBB.out) GB.out EB.out⟩
                · have HFe : Hid (fewS S1 m1 S2 m2 k = Y) := Lib.hid (by unfold fewS; rw [HX.out, HY.out]; omega)
                  have HMo : Hid (moreS S1 m1 S2 m2 k = X) := Lib.hid (by unfold moreS; rw [HX.out, HY.out]; omega)
                  go_wp2_with (first | (at_builtin; refine wpList_append_own_at _ rfl (.tmp 60) (.tmp 64) 68 rfl w2.heap.size 3 i0 (.int .i64 0) 1 8 Tryd.underlying68 hi0 hz0 hz1 hz2 rfl (by decide) _ _ _ rfl (HI.out.ra.alloc _) ⟨wc.heap.size, 0, none⟩ 1 1 [.int .i64 Y] rfl rfl (cell_one_new _ _ _) (by intro u hu; simp at hu; subst hu; rfl) (by unfold maxLen; omega) (by omega) (by simp; omega) ?_; intro va' wA hAA gA _ eA; have RB := Lib.hid (gr_second HI.out gA); have SA := gA.size; simp at SA; have HAA := Lib.hid hAA; have GA := Lib.hid gA; have EA := Lib.hid eA; clear hAA gA eA) | (at_builtin; refine wpList_append_own_at _ rfl (.tmp 66) (.tmp 70) 68 rfl w2.heap.size 3 i0 (.int .i64 0) 1 8 Tryd.underlying68 hi0 hz0 hz1 hz2 rfl (by decide) _ _ _ rfl (RB.out.alloc _) ⟨wA.heap.size, 0, none⟩ 1 1 [.int .i64 X] rfl rfl (cell_one_new _ _ _) (by intro u hu; simp at hu; subst hu; rfl) (by unfold maxLen; omega) (by omega) (by simp; omega) ?_; intro vb' wB hBB gB _ eB; have HBB := Lib.hid hBB; have GB := Lib.hid gB; have EB := Lib.hid eB; clear hBB gB eB))
                  go_roundg (gk - 1)
                  case measure => have := HK.out; omega
                  case rel => exact ⟨k + 1, by have := HK.out; omega, by go_num, gr_next HI.out HKK.out (by rw [HFe.out]; exact HAA.out) GA.out EA.out (by rw [HMo.out]; exact HBB.out) GB.out EB.out⟩
      · obtain rfl : k = n := by omega
        obtain ⟨As, cs, ea, hsa⟩ := SzsB.of_row HI.out.ra
        obtain ⟨Bs, ds, eb, hsb⟩ := SzsB.of_row HI.out.rb
        subst ea
        subst eb
        have HSA := Lib.hid hsa
        have HSB := Lib.hid hsb
        have HBL := Lib.hid (HB2.out.trans (HI.out.below.mono HB2.out.size))
        have hpa : (⟨F, fewS S1 m1 S2 m2, k, k, base⟩ : Pl).Ok := ⟨b0, b1, HA.out.num, HNM.out, by show k ≤ 4000; omega⟩
        have hpb : (⟨F, moreS S1 m1 S2 m2, k, k, base⟩ : Pl).Ok := ⟨b0, b1, HA.out.num, HNM.out, by show k ≤ 4000; omega⟩
        have HPA := Lib.hid hpa
        have HPB := Lib.hid hpb
        clear hsa hsb hpa hpb
        go_wp2_with fail
        refine (place_any ⟨F, fewS S1 m1 S2 m2, k, k, base⟩ HPA.out A cap As cs wr (HG.out.below HBL.out HG.out.pos) (HA.out.its.at_ HBL.out) HSA.out).mono ?_
        rintro e w3 ⟨h3, hb3⟩
        have HB3 := Lib.hid (HBL.out.trans (hb3.mono HBL.out.size))
        have HSB3 := Lib.hid (HSB.out.at_ hb3)
        have hP2 := place_any ⟨F, moreS S1 m1 S2 m2, k, k, base⟩ HPB.out A cap Bs ds w3 (HG.out.below HB3.out HG.out.pos) (HA.out.its.at_ HB3.out) HSB3.out
        clear hb3
        rcases h3 with ⟨hall, g, rfl, hrow⟩ | ⟨j, hj, hlt2, hw, b, rfl, hbb, hkk⟩
        · have HR3 := Lib.hid (row_words hrow)
          have HALL := Lib.hid hall
          clear hrow hall
          go_wp2_with fail
          refine hP2.mono ?_
          rintro e w4 ⟨h4, hb4⟩
          clear hP2
          have HB4 := Lib.hid (HB3.out.trans (hb4.mono HB3.out.size))
          rcases h4 with ⟨hall4, g4, rfl, hrow4⟩ | ⟨j4, hj4, _, _, b4, rfl, _, _⟩
          · have HR4 := Lib.hid (row_words hrow4)
            have HR34 := Lib.hid (HR3.out.below hb4)
            have HALL4 := Lib.hid hall4
            clear hrow4 hall4 hb4
            go_wp2_with fail
            have hfree : ∀ j, j < k → (F j).K ≠ 10 ∧ (F j).K ≠ 11 := HI.out.kinds
            have HFR := Lib.hid hfree
            clear hfree
            go_loopg [18] k (fun gg i wr2 => ∃ j : Nat, j + gg = k ∧ i = .int .i64 ((j : Int) + 1) ∧ Drawn w4 wr2)
            case atStart => exact ⟨0, Nat.zero_add _, rfl, Drawn.start _⟩
            case round =>
              obtain ⟨j, hj, rfl, hd⟩ := hrel
              have HJ := Lib.hid hj
              have hjk : j ≤ k := by omega
              clear hj
              by_cases hlt3 : j < k
              · have r1 := at_right (p := ⟨F, fewS S1 m1 S2 m2, k, k, base⟩) b0 b1 HALL.out j (Nat.le_of_lt hlt3)
                have r2 := at_right (p := ⟨F, fewS S1 m1 S2 m2, k, k, base⟩) b0 b1 HALL.out (j + 1) hlt3
                have r3 := at_right (p := ⟨F, moreS S1 m1 S2 m2, k, k, base⟩) b0 b1 HALL4.out j (Nat.le_of_lt hlt3)
                have r4 := at_right (p := ⟨F, moreS S1 m1 S2 m2, k, k, base⟩) b0 b1 HALL4.out (j + 1) hlt3
                have r5 := by_le (S1 := S1) (m1 := m1) (S2 := S2) (m2 := m2) (base := base) hlt3 (HFR.out j hlt3).1 (HFR.out j hlt3).2
                have r6 := at_le (S1 := S1) (m1 := m1) (S2 := S2) (m2 := m2) (base := base) HFR.out (j + 1) hlt3
                have r7 := (wrong_zero (HALL.out j hlt3)).1
                have c1 := hd.old (words_at HR34.out (show j < k + 1 by omega))
                have c2 := hd.old (words_at HR34.out (show j + 1 < k + 1 by omega))
                have c3 := hd.old (words_at HR4.out (show j < k + 1 by omega))
                have c4 := hd.old (words_at HR4.out (show j + 1 < k + 1 by omega))
                have e1 := Pl.at_succ ⟨F, fewS S1 m1 S2 m2, k, k, base⟩ j
                have e2 := Pl.at_succ ⟨F, moreS S1 m1 S2 m2, k, k, base⟩ j
                simp only at r1 r2 r3 r4
                rw [e1] at r2 r6 c2
                rw [e2] at r4 r6 c4
                clear e1 e2
                generalize Pl.at_ ⟨F, fewS S1 m1 S2 m2, k, k, base⟩ j = a at *
                generalize Pl.at_ ⟨F, moreS S1 m1 S2 m2, k, k, base⟩ j = c at *
                generalize Pl.by_ ⟨F, fewS S1 m1 S2 m2, k, k, base⟩ j = y at *
                generalize Pl.by_ ⟨F, moreS S1 m1 S2 m2, k, k, base⟩ j = z at *
                have x1 : IntKind.u32.wrap (a + y - a) = y := u32_in (by omega) (by omega) (by omega)
                have x2 : IntKind.u32.wrap (c + z - c) = z := u32_in (by omega) (by omega) (by omega)
                have x3 : IntKind.u32.wrap (a + y - base) = a + y - base := u32_in rfl (by omega) (by omega)
                have x4 : IntKind.u32.wrap (c + z - base) = c + z - base := u32_in rfl (by omega) (by omega)
                have x5 : IntKind.i64.wrap ((j : Int) + 1 - 1) = j := (IntKind.wrap_i64 _).trans (by omega)
                have x6 : decide (z < y) = false := decide_eq_false (by omega)
                have x7 : decide (c + z < a + y) = false := decide_eq_false (by omega)
                have x8 : (j : Int) + 1 < (k : Int) + 1 := by omega
                clear r1 r2 r3 r4 r5 r6 r7
                go_upto_region 27 with fail
                go_quiet (fail)
                go_wp2
                go_roundg (gk - 1)
                case measure => have := HJ.out; omega
                case rel => exact ⟨j + 1, by have := HJ.out; omega, by go_num, hd.more _⟩
              · obtain rfl : j = k := by omega
                have x8 : ¬ (j : Int) + 1 < (j : Int) + 1 := by omega
                go_wp2
                go_ret
                exact ⟨rfl, HB4.out.trans (hd.below.mono HB4.out.size)⟩
          · clear hb4
            go_wp2
            go_ret
            exact ⟨rfl, HB4.out⟩
        · clear hkk hlt2
          go_wp2_with fail
          refine hP2.mono ?_
          rintro e w4 ⟨h4, hb4⟩
          clear hP2
          have HB4 := Lib.hid (HB3.out.trans (hb4.mono HB3.out.size))
          rcases h4 with ⟨_, g4, rfl, _⟩ | ⟨j4, hj4, _, _, b4, rfl, _, _⟩
          all_goals
            clear hb4
            go_wp2
            go_ret
            exact ⟨rfl, HB4.out⟩
end Go.Proofs.YtbhfblogjlpnlabDoor
