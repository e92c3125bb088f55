/-
  LexParts: two sources parted by a line feed are the lines of the one and those of the other: the walk. Conditions: the handle of the type error; the variable internal/bytealg.MaxLen holds a number; the sources' room is within the model's bound.
-/
import Derived.Test.YtbhfblogjlpnlaaDoorLxPartS
import Derived.Test.YtbhfblogjlpnlaaDoorLxNam
namespace Go.Proofs.YtbhfblogjlpnlaaDoor
open Go.RowKit

set_option maxRecDepth 100000 in
set_option maxHeartbeats 4000000 in
theorem parts_walk (sa sb : ByteArray) (va vb : Value) (w : World) (hv : Vars w) (ha : SrcV w va sa) (hb : SrcV w vb sb) (hsa : sa.size ≤ 1000) (hsb : sb.size ≤ 1000) :
    Calls Tryd.prog 5 #[va, vb] w fun e w' => e = .returned (.bool true) ∧ Below w.heap.size w w' := by
  obtain ⟨alla, ea, hra⟩ := lines_all (cut sa.data.toList) 0
  obtain ⟨allb, eb, hrb⟩ := lines_all (cut sb.data.toList) 0
  obtain ⟨allz, ez, hrz, hz1, hz2⟩ := parts_lines hra hrb
  have hsz : (ba (sa.data.toList ++ 10 :: sb.data.toList)).size = sa.size + 1 + sb.size := by rw [ba_size, List.length_append, List.length_cons, len_size, len_size]; omega
  have hlena := hra.len.1
  have hlenb := hrb.len.1
  have hcla := cut_len sa.data.toList
  have hclb := cut_len sb.data.toList
  rw [len_size] at hcla hclb
  have hna : alla.length ≤ 1001 := by omega
  have hnb : allb.length ≤ 1001 := by omega
  have HAW := Lib.hid (awake_any w hv)
  have HV := Lib.hid hv
  have HSA := Lib.hid ha
  have HSB := Lib.hid hb
  have HPB := Lib.hid (pieces_le hrb (m := sb.size) (fun l hl => by have := cut_mem sb.data.toList l hl; rwa [len_size] at this))
  have HPA := Lib.hid (pieces_le hra (m := sa.size) (fun l hl => by have := cut_mem sa.data.toList l hl; rwa [len_size] at this))
  have HLA := Lib.hid (fun W (hW : Below w.heap.size w W) => lines_src sa va alla ea W (hv.below hW) (by omega) (ha.below hW) hra)
  have HLB := Lib.hid (fun W (hW : Below w.heap.size w W) => lines_src sb vb allb eb W (hv.below hW) (by omega) (hb.below hW) hrb)
  have HLZ := Lib.hid (fun W v (hW : Below w.heap.size w W) h => lines_src (ba (sa.data.toList ++ 10 :: sb.data.toList)) v allz ez W (hv.below hW) (by omega) h (by rw [ba_list]; exact hrz))
  have HCA : Hid (∀ a b c, ea = some (a, b, c) → 1 ≤ c ∧ c ≤ 16) := Lib.hid (fun a b c he => by have := (hra.code a b c he).2.2; omega)
  have HCB : Hid (∀ a b c, eb = some (a, b, c) → 1 ≤ c ∧ c ≤ 16) := Lib.hid (fun a b c he => by have := (hrb.code a b c he).2.2; omega)
  have HCZ : Hid (∀ a b c, ez = some (a, b, c) → 1 ≤ c ∧ c ≤ 16) := Lib.hid (fun a b c he => by have := (hrz.code a b c he).2.2; omega)
  have HEB : Hid (∀ a b c, eb = some (a, b, c) → a ≤ 1001) := Lib.hid (fun a b c he => by have := (hrb.code a b c he).2.1; omega)
  have HZ1 := Lib.hid hz1
  have HZ2 := Lib.hid hz2
  have HRA := Lib.hid hra
  have HRB := Lib.hid hrb
  have HSZ := Lib.hid hsz
  obtain ⟨Aa, ca, rfl, _, _, _⟩ := src_form ha
  obtain ⟨Ab, cb, rfl, _, _, _⟩ := src_form hb
  have g1 : ¬ (1000 : Int) < sa.size := by omega
  have g2 : ¬ (1000 : Int) < sb.size := by omega
  have g3 : decide ((1000 : Int) < sa.size) = false := decide_eq_false g1
  have g4 : decide ((1000 : Int) < sb.size) = false := decide_eq_false g2
  have hef := eql_faults
  clear hv ha hb hra hrb hrz hz1 hz2 hlena hlenb hcla hclb hsz
  go_enter Tryd.func5, Tryd.ntmps5
  go_wp2_with fail
  refine HAW.out.mono ?_
  rintro e w1 ⟨rfl, hb1⟩
  have HB1 := Lib.hid hb1
  clear hb1
  go_wp2_with fail
  refine (HLA.out _ HB1.out).mono ?_
  rintro e w2 h2x
  obtain ⟨vx, x, rfl, hrx, hfx, hx0, hx1, hb2⟩ := ilines_gen (HV.out.below HB1.out) HCA.out h2x
  have HB2 := Lib.hid (HB1.out.trans (hb2.mono HB1.out.size))
  have HB12 : Hid (w1.heap.size ≤ w2.heap.size) := Lib.hid hb2.size
  have HRX := Lib.hid hrx
  have HFX := Lib.hid hfx
  have HX0 := Lib.hid hx0
  have HX1 := Lib.hid hx1
  clear h2x hb2 hrx hfx hx0 hx1
  go_wp2_with fail
  refine (HLB.out _ HB2.out).mono ?_
  rintro e w3 h3x
  obtain ⟨vy, y, rfl, hry, hfy, hy0, hy1, hb3⟩ := ilines_gen (HV.out.below HB2.out) HCB.out h3x
  have HB3 := Lib.hid (HB2.out.trans (hb3.mono HB2.out.size))
  have HB23 := Lib.hid hb3
  have HRY := Lib.hid hry
  have HFY := Lib.hid hfy
  have HY0 := Lib.hid hy0
  have HY1 := Lib.hid hy1
  clear h3x hb3 hry hfy hy0 hy1
  go_wp2_with (first
    | (at_builtin; refine append_src rfl _ _ rfl w3.heap.size 0 _ [] rfl (World.ownsRow_lit w3 #[] 0 (Nat.le_refl _) (Nat.zero_le _) rfl) _ sa rfl ((HSA.out.below HB3.out).below ((Below.refl _ _).alloc (Nat.le_refl _) _)) (by omega) (by simp) ?_; intro v1 w4 hown1 hgrow1
       have hba3 : Below w3.heap.size w3 w4 := Below.grown ((Below.refl _ _).alloc (Nat.le_refl _) _) hgrow1 (by simp) (fun g hg => by cases hg; exact Nat.le_refl _)
       have HB34 := Lib.hid hba3
       have HOW1 := Lib.hid hown1
       clear hown1 hgrow1 hba3)
    | (at_builtin; refine append_src rfl _ _ rfl w3.heap.size (0 + sa.size) _ ([] ++ sa.data.toList) rfl (HOW1.out.alloc _) _ ⟨#[10]⟩ rfl (.inr ⟨w4.heap.size, 0, 1, rfl, Nat.le_refl _, by unfold maxLen; omega, bytes_lit w4 ⟨#[10]⟩ _ _ _ _ rfl rfl⟩) (by show 0 + sa.size + 1 ≤ 10000; omega) (by have := HB34.out.size; simp; omega) ?_; intro v2 w5 hown2 hgrow2
       have hba3 : Below w3.heap.size w3 w5 := Below.grown (HB34.out.alloc HB34.out.size _) hgrow2 (by have := HB34.out.size; simp; omega) (fun g hg => (HOW1.out.lt g hg).1)
       have HB35 := Lib.hid hba3
       have HOW2 := Lib.hid hown2
       clear hown2 hgrow2 hba3)
    | (at_builtin; refine append_src rfl _ _ rfl w3.heap.size _ _ _ rfl HOW2.out _ sb rfl ((HSB.out.below HB3.out).below (HB35.out.mono (Nat.le_refl _))) (by show 0 + sa.size + 1 + sb.size ≤ 10000; omega) HB35.out.size ?_; intro v3 w6 hown3 hgrow3
       have hba3 : Below w3.heap.size w3 w6 := Below.grown HB35.out hgrow3 HB35.out.size (fun g hg => (HOW2.out.lt g hg).1)
       have HB36 := Lib.hid hba3
       have HOW3 := Lib.hid hown3
       clear hown3 hgrow3 hba3))
  have hsrc : SrcV w6 v3 (ba (sa.data.toList ++ 10 :: sb.data.toList)) := src_of_own (base := w3.heap.size) (n := 0 + sa.size + (⟨#[10]⟩ : ByteArray).size + sb.size) (by rw [ba_list]; have h := HOW3.out; rwa [show ([] ++ sa.data.toList ++ (⟨#[10]⟩ : ByteArray).data.toList ++ sb.data.toList) = sa.data.toList ++ 10 :: sb.data.toList by simp] at h) (by rw [HSZ.out, Nat.zero_add]; rfl)
  have HB6 := Lib.hid (HB3.out.trans (HB36.out.mono HB3.out.size))
  refine (HLZ.out _ _ HB6.out hsrc).mono ?_
  clear hsrc
  rintro e w7 h7x
  obtain ⟨vz, z, rfl, hrz, hfz, hz0, hz1, hb7⟩ := ilines_gen (HV.out.below HB6.out) HCZ.out h7x
  have HB67 := Lib.hid hb7
  have HRZ := Lib.hid hrz
  have HFZ := Lib.hid hfz
  have HB7 := Lib.hid (HB6.out.trans (hb7.mono HB6.out.size))
  have HB37 := Lib.hid (HB36.out.trans (hb7.mono HB36.out.size))
  have HZN0 := Lib.hid hz0
  have HZN1 := Lib.hid hz1
  clear h7x hb7 hrz hfz hz0 hz1
  cases ea with
  | some p =>
    obtain rfl := HZ1.out p rfl
    obtain ⟨gx, rfl, rfl⟩ := HX1.out (by simp)
    obtain ⟨gz, rfl, rfl⟩ := HZN1.out (by simp)
    have HF1 := Lib.hid ((HFX.out.below HB23.out).below HB37.out)
    have hp := hef (fL (some p)) (fC (some p)) (fc (some p))
    clear hef
    generalize fL (some p) = L at *
    generalize fC (some p) = C at *
    generalize fc (some p) = cc at *
    go_wp2_with fail
    refine (HFZ.out _ (Below.refl _ _)).mono ?_
    rintro e w8 ⟨rfl, hb8⟩
    have HB8 := Lib.hid hb8
    clear hb8
    go_wp2_with fail
    refine (HF1.out _ HB8.out).mono ?_
    rintro e w9 ⟨rfl, hb9⟩
    have HB9 := Lib.hid hb9
    clear hb9
    go_wp2_with fail
    go_ret
    exact ⟨rfl, HB7.out.trans ((HB8.out.trans (HB9.out.mono HB8.out.size)).mono HB7.out.size)⟩
  | none =>
    obtain ⟨rfl, rfl⟩ := HZ2.out rfl
    obtain rfl := HX0.out rfl
    cases eb with
    | some q =>
      obtain ⟨ql, qi, qc⟩ := q
      obtain ⟨gy, rfl, rfl⟩ := HY1.out (by simp)
      obtain ⟨gz, rfl, rfl⟩ := HZN1.out (by simp)
      have hrx : Reading w2 w1.heap.size vx alla := HRX.out
      obtain ⟨Ax, cx, rfl, hcx, _⟩ := hrx.form
      have hq := HEB.out ql qi qc rfl
      have HF1 : Hid (FaultIs w7 (.iface 63 (.pointer (some ⟨gy, 0, none⟩))) ((ql : Int) + 1) ((qi : Int) + 1) qc) := Lib.hid (HFY.out.below HB37.out)
      have HF2 : Hid (FaultIs w7 (.iface 63 (.pointer (some ⟨gz, 0, none⟩))) ((ql : Int) + 1 + alla.length) ((qi : Int) + 1) qc) := Lib.hid (by
        have h : FaultIs w7 (.iface 63 (.pointer (some ⟨gz, 0, none⟩))) (((ql + alla.length : Nat) : Int) + 1) ((qi : Int) + 1) qc := HFZ.out
        rwa [show (((ql + alla.length : Nat) : Int) + 1) = (ql : Int) + 1 + alla.length by omega] at h)
      have l0 : (0 : Int) ≤ (ql : Int) + 1 := by omega
      have l1 : (ql : Int) + 1 ≤ 1002 := by omega
      have l2 : (alla.length : Int) ≤ 1001 := by omega
      have hp := hef ((ql : Int) + 1 + alla.length) ((qi : Int) + 1) qc
      clear hef hrx hq
      generalize (ql : Int) + 1 = L at *
      generalize (qi : Int) + 1 = C at *
      go_wp2_with fail
      refine (HF1.out _ (Below.refl _ _)).mono ?_
      rintro e w8 ⟨rfl, hb8⟩
      have HB8 := Lib.hid hb8
      clear hb8
      go_wp2_with fail
      have htf : TF w8 (L + alla.length) C qc (.iface 63 (.pointer (some ⟨gz, 0, none⟩))) (w8.alloc (.cells #[.int .i64 (L + alla.length), .int .i64 C, .int .i64 qc] 30)) :=
        have hbb : Below w8.heap.size w8 (w8.alloc (.cells #[.int .i64 (L + alla.length), .int .i64 C, .int .i64 qc] 30)) := (Below.refl _ _).alloc (Nat.le_refl _) _
        ⟨hbb, (HF2.out.below HB8.out).below hbb, by simp, by simp, by simp⟩
      have HTF := Lib.hid htf
      clear htf
      go_region_held3 (fun W => W.cell? ⟨w8.heap.size, 0, none⟩ = some (.int .i64 (L + alla.length)) ∧ W.cell? ⟨w8.heap.size, 1, none⟩ = some (.int .i64 C) ∧ W.cell? ⟨w8.heap.size, 2, none⟩ = some (.int .i64 qc) ∧ TF w8 (L + alla.length) C qc (.iface 63 (.pointer (some ⟨gz, 0, none⟩))) W)
        (first | exact ⟨HTF.out.drew.c0, HTF.out.drew.c1, HTF.out.drew.c2, HTF.out.drew⟩ | (go_split_ands; exact ⟨by assumption, by assumption, by assumption, by assumption⟩) | (go_split_ands; refine ⟨by assumption, by assumption, by assumption, TF.drew (by assumption)⟩) | go_keep)
        (first | (go_at_call 15; go_split_ands; refine (TF.fault (by assumption)).mono ?_; rintro e w9 ⟨rfl, ⟨t0, t1, t2⟩, hk9⟩))
      all_goals (try go_wp2_with fail)
      all_goals go_ret
      all_goals exact ⟨rfl, HB7.out.trans ((HB8.out.trans (hk9.below.mono HB8.out.size)).mono HB7.out.size)⟩
    | none =>
      obtain rfl := HY0.out rfl
      obtain rfl := HZN0.out rfl
      have hrx : Reading w7 w1.heap.size vx alla := ((show Reading w2 w1.heap.size vx alla from HRX.out).below HB23.out).below HB37.out
      have hry : Reading w7 w2.heap.size vy allb := (show Reading w3 w2.heap.size vy allb from HRY.out).below HB37.out
      have HRZ2 : Hid (Reading w7 w6.heap.size vz (alla ++ allb)) := Lib.hid HRZ.out
      have hal : alla ≠ [] := by
        intro h
        have := HRA.out.len.2 rfl
        rw [h] at this
        exact cut_ne _ (List.eq_nil_of_length_eq_zero this.symm)
      obtain ⟨usx, hox, hlx⟩ := hrx
      obtain ⟨gx, cx, rfl, hcx, _, hcellx⟩ := lines_form hox hal
      obtain ⟨Ay, cy, rfl, hcy, hrowy⟩ := hry.form
      have HROWY := Lib.hid hrowy
      have HLX := Lib.hid hlx
      have HOX : Hid (usx.length = alla.length * 1) := Lib.hid hox.1
      have HCX : Hid (∀ j u, usx[j]? = some u → (w7.alloc (.cells #[] 36)).cell? ((⟨gx, 0, none⟩ : Addr).add j) = some u) := Lib.hid (fun j u hu => by
        have hadd : (⟨gx, 0, none⟩ : Addr).add j = ⟨gx, j, none⟩ := by unfold Addr.add; split <;> simp_all
        have hc := hcellx j u hu
        rw [hadd]
        exact (((Below.refl _ _).alloc (Nat.le_refl _) _).cell (p := ⟨gx, j, none⟩) (World.block_lt_of_cell? w7 _ hc)).trans hc)
      have HONE : Hid (∀ u ∈ usx, u.oneCell' = true) := Lib.hid (fun u hu => by
        obtain ⟨j, hj, rfl⟩ := List.getElem_of_mem hu
        obtain ⟨u', hu', ho⟩ := hlx.2 j (alla[j]'(by rw [← hlx.1]; exact hj)) (List.getElem?_eq_getElem _)
        rw [List.getElem?_eq_getElem hj] at hu'
        injection hu' with hu'
        obtain ⟨A, c, hA⟩ := own_shape ho
        rw [hu', hA]
        rfl)
      have HW17 : Hid (w1.heap.size ≤ w7.heap.size) := Lib.hid (by have := (hox.1); have := HB23.out.size; have := HB37.out.size; have := HB12.out; omega)
      have HRY := Lib.hid hry
      clear hox hlx hcellx hrowy hry hef hal
      obtain ⟨i1, hi1, hy0, hy1, hy2⟩ := info_parts Tryd.infoLine
      obtain ⟨i0, hi, hi0, hi2, hi3⟩ := info_parts Tryd.infoTok
      go_wp2_with (first | (at_builtin; refine wpList_append_own _ rfl _ _ 24 rfl w7.heap.size 36 i1 (.slice none 0 0) 1 24 Tryd.underlying24 hi1 hy0 hy1 hy2 rfl (by decide) _ 0 [] rfl (World.ownsRow_lit w7 #[] 0 (Nat.le_refl _) (Nat.zero_le _) rfl) ⟨gx, 0, none⟩ alla.length cx usx rfl HOX.out HCX.out HONE.out (by unfold maxLen; omega) (by omega) (by simp) ?_; intro v4 w8 hown4 hgrow4 _))
      have hpi : PInv w7 w1.heap.size alla allb 0 v4 w8 usx :=
        ⟨by simpa using hown4, by
          rw [List.take_zero, List.append_nil]
          exact (HLX.out.below ((Below.refl _ _).alloc (Nat.le_refl _) _)).grown (World.ownsRow_lit (base := w7.heap.size) (e := 36) (size := 1) w7 #[] 0 (Nat.le_refl _) (Nat.zero_le _) rfl) hgrow4,
          Below.grown ((Below.refl _ _).alloc (Nat.le_refl _) _) hgrow4 (by simp) (fun g hg => by cases hg; exact Nat.le_refl _)⟩
      have HPI := Lib.hid hpi
      clear hpi hown4 hgrow4
      have na1 : (alla.length : Int) ≤ 1001 := by omega
      have nb1 : (allb.length : Int) ≤ 1001 := by omega
      go_loopw [12, 13] (fun v i wr => ∃ (k : Nat) (us : List Value), k ≤ allb.length ∧ i = .int .i64 k ∧ Hid (PInv w7 w1.heap.size alla allb k v wr us)) (fun _ i _ => allb.length - (intOf i).toNat)
      case atStart => exact ⟨0, _, Nat.zero_le _, rfl, HPI⟩
      case round =>
        obtain ⟨k, us, hk, rfl, HI⟩ := hrel
        obtain ⟨Aw, cw, rfl⟩ := own_shape HI.out.own
        by_cases hkl : k < allb.length
        · have hki : (k : Int) < allb.length := by omega
          obtain ⟨ps, hps⟩ : ∃ ps, allb[k]? = some ps := ⟨_, List.getElem?_eq_getElem hkl⟩
          have hplen := HPB.out ps (List.mem_of_getElem? hps)
          obtain ⟨gy, B, d, rfl, hRA⟩ := HROWY.out k ps hps
          have HRA := Lib.hid (hRA.below HI.out.below)
          have r0 := HRA.out.row
          have HPS := Lib.hid hps
          clear hRA hps
          obtain ⟨wo, rfl⟩ : ∃ wo : World, wo = wr := ⟨_, rfl⟩
          go_wp2_with fail
          go_loopw [14, 15] (fun l m wx => ∃ j : Nat, j ≤ ps.length ∧ m = .int .i64 j ∧ Hid (wx.ownsRow wo.heap.size 39 6 l j (allCells (ps.take j) ((k : Int) + 1 + alla.length)) ∧ Below wo.heap.size wo wx)) (fun _ m _ => ps.length - (intOf m).toNat)
          case atStart => exact ⟨0, Nat.zero_le _, rfl, Lib.hid ⟨by rw [List.take_zero]; exact World.ownsRow_nil _ _ _ _, Below.refl _ _⟩⟩
          case round =>
            obtain ⟨m, hm, rfl, HX⟩ := hrel
            have x0 := (HRA.out.below HX.out.2).row
            by_cases hmt : m < ps.length
            · have hmi : (m : Int) < ps.length := by omega
              have hpm : ps[m]? = some ps[m] := List.getElem?_eq_getElem hmt
              obtain ⟨gt, rfl, e0, e1, e2, e3, e4, e5⟩ := (HRA.out.below HX.out.2).cell m _ hpm
              have hmd : (m : Int) < d := by have := HRA.out.cap; omega
              have HUP := Lib.hid (allCells_upto ps m _ ((k : Int) + 1 + alla.length) hpm)
              generalize ps[m] = p at *
              have c1 := fun (w1 : World) => cells_new (w1.alloc (.cells #[.int .i64 p.kind, .int .i64 ((k : Int) + 1 + alla.length), .int .i64 (p.at_ + 1), .string (ba p.text), .int .u32 p.num, .int .i64 0] 39)) #[.int .i64 p.kind, .int .i64 ((k : Int) + 1 + alla.length), .int .i64 (p.at_ + 1), .string (ba p.text), .int .u32 p.num, .int .i64 0] 39 (w1.heap.size + 1) (by simp)
              have HC := Lib.hid c1
              clear c1 hpm
              go_wp2_with (first | (at_builtin; refine wpList_append_own _ rfl _ _ 36 rfl wo.heap.size 39 i0 (.agg #[.int .i64 0, .int .i64 0, .int .i64 0, .string ByteArray.empty, .int .u32 0, .int .i64 0]) 6 56 Tryd.underlying36 hi hi0 hi2 hi3 rfl (by decide) _ _ _ rfl ((HX.out.1.alloc _).alloc _) ⟨wr.heap.size + 1, 0, none⟩ 1 1 (p.cells ((k : Int) + 1 + alla.length)) rfl rfl (HC.out wr) (by intro u hu; simp [Piece.cells] at hu; rcases hu with rfl | rfl | rfl | rfl | rfl | rfl <;> rfl) (by unfold maxLen; omega) (by omega) (by have := HX.out.2.size; simp; omega) ?_; intro v' w9 hown' hgrow _))
              have RR : w9.ownsRow wo.heap.size 39 6 v' (m + 1) (allCells (ps.take (m + 1)) ((k : Int) + 1 + alla.length)) ∧ Below wo.heap.size wo w9 := ⟨by rw [HUP.out]; exact hown', Below.grown ((HX.out.2.alloc HX.out.2.size _).alloc (by have := HX.out.2.size; simp; omega) _) hgrow (by have := HX.out.2.size; simp; omega) (fun g hg => (HX.out.1.lt g hg).1)⟩
              have HRR := Lib.hid RR
              clear RR hown' hgrow
              go_roundw
              case rel => exact ⟨m + 1, by omega, by go_num, HRR⟩
              case measure => simp [intOf]; omega
            · obtain rfl : m = ps.length := by omega
              have hl := HX.out.1
              rw [List.take_length] at hl
              obtain ⟨Al, cl, rfl⟩ := own_shape hl
              have HL := Lib.hid hl
              clear hl
              have c2 := fun (w1 : World) => cells_new w1 #[.slice Al ps.length cl] 36 w1.heap.size rfl
              have HC2 := Lib.hid c2
              clear c2
              go_wp2_with (first | (at_builtin; refine wpList_append_own _ rfl _ _ 24 rfl w7.heap.size 36 i1 (.slice none 0 0) 1 24 Tryd.underlying24 hi1 hy0 hy1 hy2 rfl (by decide) _ _ _ rfl ((own_below HI.out.own HX.out.2).alloc _) ⟨wr.heap.size, 0, none⟩ 1 1 [.slice Al ps.length cl] rfl rfl (HC2.out wr) (by intro x hx; simp at hx; subst hx; rfl) (by unfold maxLen; omega) (by omega) (by have := HI.out.below.size; have := HX.out.2.size; simp; omega) ?_; intro v' w9 hown' hgrow _; have RR := p_step HW17.out HI.out HPS.out HX.out.2 (by rw [show (((alla.length + k : Nat) : Int) + 1) = (k : Int) + 1 + alla.length by omega]; exact HL.out) hown' hgrow; clear hown' hgrow))
              have HRR := Lib.hid RR
              clear RR
              go_roundw
              case rel => exact ⟨k + 1, _, by omega, by go_num, HRR⟩
              case measure => simp [intOf]; omega
        · obtain rfl : k = allb.length := by omega
          have HRW : Hid (Reading wr w1.heap.size (.slice Aw (alla.length + allb.length) cw) (alla ++ allb)) := Lib.hid ⟨us, by rw [List.length_append]; exact own_base HI.out.own HW17.out, by have := HI.out.lines; rwa [List.take_length] at this⟩
          have HLE : Hid (∀ ps ∈ alla ++ allb, ps.length ≤ 70000) := Lib.hid (fun ps hp => by
            rcases List.mem_append.1 hp with h | h
            · have := HPA.out ps h; omega
            · have := HPB.out ps h; omega)
          go_wp2_with fail
          refine (same_any _ _ _ _ _ wr (by rw [List.length_append]; omega) HLE.out (HRZ2.out.below HI.out.below) HRW.out).mono ?_
          rintro e w9 ⟨rfl, hd9⟩
          have HB9 := Lib.hid (HB7.out.trans ((HI.out.below.mono HB7.out.size).trans (hd9.below.mono (Nat.le_trans HB7.out.size HI.out.below.size))))
          clear hd9
          go_wp2_with fail
          go_ret
          exact ⟨rfl, HB9.out⟩
end Go.Proofs.YtbhfblogjlpnlaaDoor
