/-
  MemPlays returns true: whatever is stored and laid, what is loaded and all cells are what the document says. Condition: none that a call's arguments don't bring.
-/
import Derived.Test.YticfffndciddgaaMePlaysS
import Derived.BigGuard
import Derived.StillTailTactics
namespace Go.Proofs.Yticfffndciddgaa
open Go.RowKit Go.Maps

set_option maxRecDepth 100000 in
set_option maxHeartbeats 4000000 in
theorem plays_walk {w : World} {A C : Option Addr} {c n m cm : Nat} {l : List (Int × Int)} {acts : List Act5} (hn : l.length = n) (h : CellsAt w A l) (hlc : n ≤ c) (hcm : c ≤ maxLen) (hm : acts.length = m) (hT : ActsAt w C acts) (hmc : m ≤ cm) (hcmm : cm ≤ maxLen) (a z : Int) (a0 : 0 ≤ a) (a1 : a ≤ 4294967295) :
    Calls Try.prog 3 #[.slice A n c, .slice C m cm, .int .u32 a, .int .i64 z] w fun e w' => e = .returned (.bool true) ∧ Below w.heap.size w w' := by
  have HA := Lib.hid (awake_is w)
  have H := Lib.hid h
  have HN := Lib.hid hn
  have HT := Lib.hid (And.intro hT hm)
  have HL := Lib.hid fun W (q : Below w.heap.size w W) => light_is (C := A) (hT.next q) hm hmc hcmm hlc hcm
  have HW := Lib.hid fun W (q : Below w.heap.size w W) (h3 : n ≤ 300) => HN.out ▸ new_is (c := c) (H.out.next q) (HN.out ▸ hlc) hcm (by rw [HN.out]; omega)
  have HV := Lib.hid fun W (q : Below w.heap.size w W) (h3 : n ≤ 300) => HN.out ▸ rnew_is (c := c) (H.out.next q) (HN.out ▸ hlc) hcm (by rw [HN.out]; omega)
  have hbig : cm ≤ 9223372036854775807 := by unfold maxLen at hcmm; omega
  clear h hn hT hm
  go_enter Try.func3, Try.ntmps3
  go_wp2_with (first
    | (go_at_call 7; refine HA.out.mono ?_; rintro e w1 ⟨rfl, hb1⟩; have HB1 := Lib.hid hb1; have hs1 := hb1.size; clear hb1)
    | (go_at_call 8; refine (HL.out _ HB1.out).mono ?_; rintro e w1' ⟨q, rfl, rfl, hq⟩; clear HL)
    | (go_at_call 9; have h3 := hq (by have hx : (!q) = false := (by assumption); simpa using hx); have h30 := h3.1; refine (HW.out _ HB1.out h30).mono ?_; rintro e w2 ⟨p, b, rfl, p0, b0, m2, s2⟩; have HM2 := Lib.hid (And.intro m2 (And.intro s2 (HB1.out.trans (s2.mono HB1.out.size)))); obtain ⟨hpB, hbB, _⟩ := m2.lt; clear m2 s2 HB1 HW)
    | (go_at_call 10; refine (HV.out _ HM2.out.2.2 h30).mono ?_; rintro e w3 ⟨r, rfl, r3, s3⟩; have HM3 := Lib.hid (And.intro (HM2.out.1.next s3) (And.intro r3 (And.intro (HM2.out.2.2.trans (s3.mono HM2.out.2.2.size)) HM2.out.2.2.size))); clear r3 s3 HM2 HV))
  · go_ret
    exact ⟨rfl, HB1.out⟩
  have h0B := HM3.out.2.2.2
  have h0b : w.heap.size ≤ b := by omega
  have h300 := h3.2
  clear hq h3 HA
  obtain ⟨B, hB⟩ : ∃ B, w2.heap.size = B := ⟨_, rfl⟩
  rw [hB] at h0B hpB hbB
  go_loopg [11] (m + 1) (fun fu vi wr => ∃ i : Nat, vi = .int .i64 i ∧ i ≤ m ∧ m + 1 ≤ i + fu ∧ Hid (∃ s f L, Both w B p b r (n + total (acts.take i)) s f L wr))
  case atStart => exact ⟨0, rfl, Nat.zero_le _, by omega, Lib.hid ⟨n, madeF l, madeL l, HM3.out.1, hB ▸ HM3.out.2.1, look_made l, HM3.out.2.2.1, by simp [total], by
    have h1 := madeL_le l l.length
    rw [List.take_length] at h1
    have h2 := HN.out
    omega⟩⟩
  case round =>
    obtain ⟨i, rfl, hi, hk, HI⟩ := hrel
    obtain ⟨s, f, L, hBo⟩ := HI.out
    have hTi := total_take acts i
    have hsT := hBo.s_le
    have hLT := hBo.L_le
    by_cases hlt : i < m
    · have hli : (i : Int) < m := by omega
      have hic : (i : Int) < cm := by omega
      obtain ⟨x, hx⟩ : ∃ x, acts[i]? = some x := ⟨_, List.getElem?_eq_getElem (HT.out.2 ▸ hlt)⟩
      obtain ⟨g, o, rfl, hg, e0, e1, e2, e3, e4⟩ := (HT.out.1.next hBo.below).at_ i x hx
      obtain ⟨k0, k1, k2, k3, k4, k5, _, k7⟩ := HT.out.1.ok x (List.mem_of_getElem? hx)
      obtain ⟨T, hTT⟩ : ∃ T, n + total (acts.take i) = T := ⟨_, rfl⟩
      have hTn : n + total (acts.take (i + 1)) = T + 4 + x.bs.length := by
        rw [List.take_add_one, hx]
        simp only [Option.toList_some]
        rw [total_snoc]
        omega
      have hTi2 := total_take acts (i + 1)
      rw [hTT] at hBo hsT hLT
      have HBo := Lib.hid hBo
      have HK7 := Lib.hid k7
      have hblk : ActBlk (wr.alloc (.cells #[.int .i64 x.k, .int .u32 x.a, .int .i64 x.n, .int .u32 x.v, .slice x.B x.bs.length x.c] 33)) wr.heap.size x := heap_alloc_new wr _
      have hbA : Below wr.heap.size wr (wr.alloc (.cells #[.int .i64 x.k, .int .u32 x.a, .int .i64 x.n, .int .u32 x.v, .slice x.B x.bs.length x.c] 33)) := (Below.refl _ _).alloc (Nat.le_refl _) _
      have hbg : b ≠ wr.heap.size := Nat.ne_of_lt hBo.m.lt.2.1
      clear hBo HI hx k7
      go_upto_if 38 with fail
      generalize wr.alloc (.cells #[.int .i64 x.k, .int .u32 x.a, .int .i64 x.n, .int .u32 x.v, .slice x.B x.bs.length x.c] 33) = wA at hblk hbA ⊢
      have HBA := Lib.hid (HBo.out.next hbA)
      generalize wr.heap.size = ga at hblk hbg ⊢
      have hw4 := wid_le x.n
      have HBK := Lib.hid hblk
      obtain ⟨c0, c1, c2, c3, c4⟩ := hblk.cells
      clear hbA HBo hblk e0 e1 e2 e3 e4 hg
      go_cut [] (fun wx => Hid (∃ s f L, Both w B p b r (T + 4 + x.bs.length) s f L wx ∧ ActBlk wx ga x))
      case first =>
        by_cases hkz : x.k = 0
        · have hkb : (x.k == 0) = true := by rw [hkz]; rfl
          have HS := Lib.hid (store_is HBA.out.m x.a x.v x.n k0 k1 k2 k3 (by omega))
          clear hkz
          go_wp2_with (first
            | (go_at_call 11; refine HS.out.mono ?_; rintro e w5 ⟨rfl, m5, g5⟩; have hb5 := HBK.out.grown g5 hbg; obtain ⟨d0, d1, d2, d3, d4⟩ := hb5.cells; have HB5 := Lib.hid hb5; have HM5 := Lib.hid (And.intro m5 g5); have HR := Lib.hid (rstore_keep (HBA.out.first hbB g5) x.a x.v x.n k0 k1 k2 k3 (by omega)); clear m5 g5 hb5 HS)
            | (go_at_call 12; refine HR.out.mono ?_; rintro e w6 ⟨rfl, r6, b6, q6⟩))
          go_meet
          case rel => exact Lib.hid ⟨_, _, _, HBA.out.turn hpB hbB h0b h0B HM5.out.1 HM5.out.2 r6 b6 (look_store x.v L f x.a HBA.out.look (wid x.n)) (by omega) (Nat.le_trans (storeL_len x.v L x.a (wid x.n)) (by omega)), HB5.out.keep q6⟩
        · have hkb : (x.k == 0) = false := beq_eq_false_iff_ne.2 hkz
          have hAB : ∀ g o, 0 < x.bs.length → x.B = some ⟨g, o, none⟩ → g ≠ b := fun g' o' hp hq => by
            obtain ⟨g2, o2, q1, q2, _⟩ := HK7.out.at_ 0 _ (List.getElem?_eq_getElem hp)
            rw [hq] at q1
            injection q1 with q1
            injection q1 with q1
            omega
          have HLY := Lib.hid (lay_is HBA.out.m rfl (HK7.out.next HBA.out.below) hAB k4 k5 x.a (by omega))
          clear hkz hAB
          go_wp2_with (go_at_call 13; refine HLY.out.mono ?_; rintro e w5 ⟨rfl, m5, g5⟩; have hb5 := HBK.out.grown g5 hbg; have HB5 := Lib.hid hb5; have HM5 := Lib.hid (And.intro m5 g5); have HR5 := Lib.hid (HBA.out.first hbB g5); clear m5 g5 hb5 HLY)
          go_loopg [13] (x.bs.length + 1) (fun fu vk wx => ∃ t : Nat, vk = .int .i64 t ∧ t ≤ x.bs.length ∧ x.bs.length + 1 ≤ t + fu ∧ Hid (RefIs B wx r (layL (fun k => x.bs.getD k 0) L x.a t) ∧ Below B w5 wx ∧ Keep w5 wx))
          case atStart => exact ⟨0, rfl, Nat.zero_le _, by omega, Lib.hid ⟨HR5.out, Below.refl _ _, Keep.refl _⟩⟩
          case round =>
            obtain ⟨t, rfl, ht, hf, HJ⟩ := hrel
            obtain ⟨d0, d1, d2, d3, d4⟩ := (HB5.out.keep HJ.out.2.2).cells
            clear c0 c1 c2 c3 c4
            by_cases htl : t < x.bs.length
            · have hti : (t : Int) < x.bs.length := by omega
              have htc : (t : Int) < x.c := by omega
              obtain ⟨y, hy⟩ : ∃ y, x.bs[t]? = some y := ⟨_, List.getElem?_eq_getElem htl⟩
              obtain ⟨g2, o2, hB2, hg2, f0⟩ := HK7.out.at_ t y hy
              obtain ⟨y0, y1⟩ := HK7.out.ok y (List.mem_of_getElem? hy)
              have f1 := (((HBA.out.below.grown HM5.out.2 HBA.out.below.size (fun k e => by injection e with e; omega)).trans (HJ.out.2.1.mono h0B)).cell (p := ⟨g2, o2 + t, none⟩) hg2).trans f0
              rw [hB2] at d4
              have hA : IntKind.u32.wrap (x.a + (t : Int)) = adr x.a t := by rw [IntKind.wrap_u32]; rfl
              have HTy : Hid (x.bs.getD t 0 = y) := Lib.hid (by simp [List.getD, hy])
              have hml := layL_len (fun k => x.bs.getD k 0) L x.a t
              have HP := Lib.hid (fun W (q : Below wr.heap.size wr W) => rput_keep (HJ.out.1.next q) (adr x.a t) y (adr_lo _ _) (adr_hi _ _) y0 y1 (by omega))
              have hBs : B ≤ wr.heap.size := Nat.le_of_lt (Nat.lt_of_le_of_lt HJ.out.1.base HJ.out.1.lt)
              clear hy f0 hB2 hml y0 y1 d0 d2 d3
              go_wp2_with fail
              go_still_tail 11, (by kernel_rfl)
              change wpList _ _ _ _ _ wr.drew
              have hdw : Below wr.heap.size wr wr.drew := (Below.refl _ _).drew
              generalize wr.drew = wq at hdw ⊢
              have HQ := Lib.hid (And.intro (HP.out wq hdw) hdw)
              clear hdw
              go_wp2_with (go_at_call 14; refine HQ.out.1.mono ?_; rintro e w7 ⟨⟨rfl, q1, q2⟩, q3⟩)
              have HX : Hid (RefIs B w7 r (layL (fun k => x.bs.getD k 0) L x.a (t + 1)) ∧ Below B w5 w7 ∧ Keep w5 w7) := Lib.hid ⟨by
                have e : layL (fun k => x.bs.getD k 0) L x.a (t + 1) = putL (layL (fun k => x.bs.getD k 0) L x.a t) (adr x.a t) y := by
                  show putL _ _ (x.bs.getD t 0) = _
                  rw [HTy.out]
                rw [e]
                exact q1, HJ.out.2.1.trans ((HQ.out.2.mono hBs).trans q2), HJ.out.2.2.trans ((Keep.of HQ.out.2).trans q3)⟩
              clear q1 q2 q3
              go_roundg (x.bs.length - t)
              case measure => omega
              case rel => exact ⟨t + 1, by go_num, by omega, by omega, HX⟩
            · have hti : ¬ (t : Int) < x.bs.length := by omega
              obtain rfl : t = x.bs.length := by omega
              go_wp2_with fail
              go_meet
              case rel => exact Lib.hid ⟨_, _, _, HBA.out.turn hpB hbB h0b h0B HM5.out.1 HM5.out.2 HJ.out.1 HJ.out.2.1 (look_lay _ L f x.a HBA.out.look _) (by omega) (Nat.le_trans (layL_len _ L x.a _) (by omega)), HB5.out.keep HJ.out.2.2⟩
      case rest =>
        obtain ⟨s2, f2, L2, hBo2, hbk2⟩ := hcut.out
        clear c0 c1 c2 c3 c4
        obtain ⟨d0, d1, d2, d3, d4⟩ := hbk2.cells
        have HB2 := Lib.hid hBo2
        have hok2 : ∀ y, 0 ≤ lookF L2 y ∧ lookF L2 y ≤ 255 := fun y => by rw [hBo2.look]; exact hBo2.m.byte y
        have hL2 := hBo2.L_le
        have HLM : Hid (∀ k y q, 0 ≤ y → y ≤ 4294967295 → Calls Try.prog 15 #[.pointer (some ⟨p, 0, none⟩), .int .u32 y, .int .i64 q] (wc.drewN k) fun e w' => e = .returned (.int .u32 (loadF f2 y (wid q))) ∧ w' = wc.drewN k) := Lib.hid fun k y q y0 y1 => (load_is (HB2.out.m.next (bdrew (n := k) (Below.refl wc.heap.size wc))) y q y0 y1).mono fun _ _ ⟨q1, q2⟩ => ⟨q1, q2.symm⟩
        have HLR : Hid (∀ k y q, Calls Try.prog 16 #[.pointer (some ⟨r, 0, none⟩), .int .u32 y, .int .i64 q] (wc.drewN k) fun e w' => e = .returned (.int .u32 (loadF f2 y (wid q))) ∧ w' = wc.drewN k) := Lib.hid fun k y q => by
          have h := rload_is (HB2.out.r.next (bdrew (n := k) (Below.refl wc.heap.size wc))) hok2 y q (by omega)
          rwa [show lookF L2 = f2 from funext HB2.out.look] at h
        have hne : ∀ u : Int, (u != u) = false := fun u => by simp
        have HX : Hid (∀ k, ∃ s f L, Both w B p b r (n + total (acts.take (i + 1))) s f L (wc.drewN k)) := Lib.hid fun k => ⟨s2, f2, L2, by rw [hTn]; exact HB2.out.next (bdrew (Below.refl _ _))⟩
        clear hBo2 hbk2 hok2 hTn
        go_wp2_with fail
        go_quiet (first
          | (go_at_call 15; refine Calls.quiet_of_same (HLM.out _ _ _ (by assumption) (by assumption)))
          | (go_at_call 16; refine Calls.quiet_of_same (HLR.out _ _ _)))
        go_wp2_with fail
        go_roundg (m - i)
        case measure => omega
        case rel => exact ⟨i + 1, by go_num, by omega, by omega, Lib.hid (HX.out _)⟩
    · have hli : ¬ (i : Int) < m := by omega
      have HBo := Lib.hid hBo
      have hsz := hBo.below.size
      clear hBo HI
      go_wp2_with (first
        | (go_at_call 18; refine (cells_is HBo.out.m (by omega)).mono ?_; rintro e w7 ⟨A7, c7, r7, rfl, y1, y2, y3, y4, y5, y6⟩; have HM7 := Lib.hid (And.intro (HBo.out.r.next y6) (And.intro (HBo.out.below.trans (y6.mono hsz)) (And.intro y3 y4))); clear y3 y4 y6)
        | (go_at_call 19; refine (rcells_is HM7.out.1 (by omega)).mono ?_; rintro e w8 ⟨A8, c8, r8, rfl, z1, z2, z3, z4, z5, z6⟩; obtain rfl : r8 = r7 := z3.eq (HM7.out.2.2.1.congr fun x _ _ => (HBo.out.look x).symm); have HM8 := Lib.hid (And.intro (HM7.out.2.1.trans (z6.mono HM7.out.2.1.size)) (same_is (HM7.out.2.2.2.next z6) z4 y1 z1 y2 z2)); clear z3 z4 z6 HM7)
        | (go_at_call 17; refine HM8.out.2.mono ?_; rintro e w9 ⟨rfl, x1⟩; have HM9 := Lib.hid (HM8.out.1.trans (x1.mono HM8.out.1.size)); clear x1 HM8))
      go_ret
      exact ⟨rfl, HM9.out⟩
end Go.Proofs.Yticfffndciddgaa
