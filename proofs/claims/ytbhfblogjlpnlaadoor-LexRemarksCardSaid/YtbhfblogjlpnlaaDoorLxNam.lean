/-
  LexNames: the text of each name stands in its line at its column; tokens of a line stand one behind the other: the walk. Conditions: the handle of the type error; the variable internal/bytealg.MaxLen holds a number; the source's room is within the model's bound.
-/
import Derived.Test.YtbhfblogjlpnlaaDoorLxGen
import Derived.Test.YtbhfblogjlpnlaaDoorLxNamS
import Derived.BigQuiet
import Derived.IntWalk
namespace Go.Proofs.YtbhfblogjlpnlaaDoor
open Go.RowKit

theorem RowAt.below {w w' : World} {g i c : Nat} {ps : List Piece} {A : Option Addr} (h : RowAt w g i ps A c) (hb : Below w.heap.size w w') : RowAt w' g i ps A c := by
  have old : ∀ (a : Addr) (v : Value), w.cell? a = some v → w'.cell? a = some v := fun a v hv => (hb.cell (p := a) (World.block_lt_of_cell? w a hv)).trans hv
  refine ⟨old _ _ h.row, h.cap, fun j p hp => ?_⟩
  obtain ⟨b, hA, h0, h1, h2, h3, h4, h5⟩ := h.cell j p hp
  exact ⟨b, hA, old _ _ h0, old _ _ h1, old _ _ h2, old _ _ h3, old _ _ h4, old _ _ h5⟩

/-- What holds at the outer loop's head. -/
structure NInv (s : ByteArray) (all : List (List Piece)) (w2 : World) (k f j : Nat) (wr : World) : Prop where
  src : (k = s.size + 1 ∧ j = all.length) ∨ (k ≤ s.size ∧ f ≤ k ∧ NoLF (s.extract f k).data.toList ∧ LinesR j (cut (s.data.toList.drop f)) (all.drop j) none)
  top : k ≤ s.size + 1
  few : j ≤ all.length
  below : Below w2.heap.size w2 wr

theorem below_drewN {B : Nat} {a w : World} (h : Below B a w) (n : Nat) : Below B a (w.drewN n) := ⟨h.os, h.tape, h.output, h.size, h.block⟩

theorem drop_cons_get {α : Type} {l : List α} {j : Nat} {a : α} {r : List α} (h : l.drop j = a :: r) : j < l.length ∧ l[j]? = some a ∧ l.drop (j + 1) = r := by
  have hj : j < l.length := by
    rcases Nat.lt_or_ge j l.length with h1 | h1
    · exact h1
    · rw [List.drop_eq_nil_of_le h1] at h
      cases h
  rw [List.drop_eq_getElem_cons hj] at h
  injection h with h1 h2
  exact ⟨hj, by rw [List.getElem?_eq_getElem hj, h1], h2⟩

/-- Where a line ends. -/
theorem line_end {s : ByteArray} {all : List (List Piece)} {k f j : Nat} (hk : k ≤ s.size) (hfk : f ≤ k) (hno : NoLF (s.extract f k).data.toList) (hr : LinesR j (cut (s.data.toList.drop f)) (all.drop j) none) (he : ¬ ∃ h : k < s.size, s[k] ≠ 10) :
    ∃ ps, j < all.length ∧ all[j]? = some ps ∧ LexFrom (s.extract f k).data.toList 0 ps none ∧ ((k + 1 = s.size + 1 ∧ j + 1 = all.length) ∨ (k + 1 ≤ s.size ∧ LinesR (j + 1) (cut (s.data.toList.drop (k + 1))) (all.drop (j + 1)) none)) := by
  have hend : ∃ ls, LinesR j ((s.extract f k).data.toList :: ls) (all.drop j) none ∧ ((∃ _ : k < s.size, ls = cut (s.data.toList.drop (k + 1))) ∨ (k = s.size ∧ ls = [])) := by
    by_cases hlt : k < s.size
    · have h10 : s[k] = 10 := Decidable.byContradiction fun h => he ⟨hlt, h⟩
      exact ⟨_, by rw [← cut_feed s hfk hlt hno h10]; exact hr, .inl ⟨hlt, rfl⟩⟩
    · obtain rfl : k = s.size := by omega
      exact ⟨[], by rw [← cut_end s hno]; exact hr, .inr ⟨rfl, rfl⟩⟩
  obtain ⟨ls, hr, hend⟩ := hend
  generalize hd : all.drop j = rest at hr
  cases hr with
  | good _ _ _ ps pss _ hlex hmore =>
    obtain ⟨hj, hg, hdr⟩ := drop_cons_get hd
    refine ⟨ps, hj, hg, hlex, ?_⟩
    rcases hend with ⟨hlt, rfl⟩ | ⟨hks, rfl⟩
    · exact .inr ⟨by omega, by rw [hdr]; exact hmore⟩
    · cases hmore
      refine .inl ⟨by omega, ?_⟩
      have h1 := List.drop_eq_nil_iff.1 hdr
      omega

set_option maxRecDepth 100000 in
set_option maxHeartbeats 4000000 in
theorem names_some (s : ByteArray) (b o c : Nat) (w : World) (hv : Vars w) (hs : s.size ≤ 2000) (hc : s.size ≤ c) (hcm : c ≤ maxLen) (hB : Bytes w b o s) : Calls Tryd.prog 4 #[.slice (some ⟨b, o, none⟩) s.size c] w fun e w' => e = .returned (.bool true) ∧ Below w.heap.size w w' := by
  have HAW := Lib.hid (awake_any w hv)
  have HV := Lib.hid hv
  have HB := Lib.hid hB
  obtain ⟨all, err, hr⟩ := lines_all (cut s.data.toList) 0
  have hlen := hr.len.1
  have hcl := cut_len s.data.toList
  rw [len_size] at hcl
  have hall : all.length ≤ 2001 := by omega
  have HPS := Lib.hid (pieces_le hr (m := s.size) (fun l hl => by have := cut_mem s.data.toList l hl; rwa [len_size] at this))
  have HLI := Lib.hid (fun W hW => lines_at s b o c all err W (hv.below hW) (by omega) hc hcm (hB.below hW) hr)
  have HCD : Hid (∀ a b c, err = some (a, b, c) → 1 ≤ c ∧ c ≤ 16) := Lib.hid (fun a b c he => by have := (hr.code a b c he).2.2; omega)
  have HR := Lib.hid hr
  have g1 : ¬ (2000 : Int) < s.size := by omega
  clear hv hB hr hlen hcl
  go_enter Tryd.func4, Tryd.ntmps4
  go_wp2_with fail
  refine HAW.out.mono ?_
  rintro e w1 ⟨rfl, hb1⟩
  have HB1 := Lib.hid hb1
  clear hb1
  go_wp2_with fail
  refine (HLI.out _ HB1.out).mono ?_
  rintro e w2 h2x
  obtain ⟨vL, x, rfl, hrd, _, hx0, hx1, hb2⟩ := ilines_gen (HV.out.below HB1.out) HCD.out h2x
  clear h2x
  have HB2 := Lib.hid (HB1.out.trans (hb2.mono HB1.out.size))
  clear hb2
  by_cases herr : err = none
  case neg =>
    obtain ⟨g, rfl, rfl⟩ := hx1 herr
    clear hx0 hx1 hrd
    go_wp2_with fail
    go_ret
    exact ⟨rfl, HB2.out⟩
  subst herr
  obtain rfl := hx0 rfl
  obtain ⟨A, cp, rfl, hcp, hrow⟩ := hrd.form
  have HROW := Lib.hid hrow
  clear hx0 hx1 hrd hrow
  have hsh : (shown all none).length = all.length := rfl
  rw [hsh] at hcp ⊢
  go_wp2_with fail
  go_loopw [5, 6, 7] (fun ln f i wr => ∃ k fr j : Nat, i = .int .i64 k ∧ f = .int .i64 fr ∧ ln = .int .i64 j ∧ Hid (NInv s all w2 k fr j wr)) (fun _ _ i _ => s.size + 1 - (intOf i).toNat)
  case atStart => exact ⟨0, 0, 0, rfl, rfl, rfl, Lib.hid ⟨.inr ⟨Nat.zero_le _, Nat.le_refl _, noLF_nil s 0, by rw [List.drop_zero, List.drop_zero]; exact HR.out⟩, by omega, Nat.zero_le _, Below.refl _ _⟩⟩
  case round =>
    obtain ⟨k, fr, j, rfl, rfl, rfl, HI⟩ := hrel
    have htop := HI.out.top
    have hfew := HI.out.few
    have HWB : Hid (Below w.heap.size w wr) := Lib.hid (HB2.out.trans (HI.out.below.mono HB2.out.size))
    by_cases hke : k = s.size + 1
    · have hki : ¬ (k : Int) ≤ s.size := by omega
      obtain rfl : j = all.length := by
        rcases HI.out.src with ⟨_, h⟩ | ⟨h, _⟩
        · exact h
        · omega
      go_wp2_with fail
      go_ret
      exact ⟨rfl, HWB.out⟩
    · have hki : (k : Int) ≤ s.size := by omega
      have hsrc : k ≤ s.size ∧ fr ≤ k ∧ NoLF (s.extract fr k).data.toList ∧ LinesR j (cut (s.data.toList.drop fr)) (all.drop j) none := HI.out.src.resolve_left (fun h => hke h.1)
      obtain ⟨hk, hfk, hno, hlr⟩ := hsrc
      by_cases hpass : ∃ h : k < s.size, s[k] ≠ 10
      · obtain ⟨hlt, hne⟩ := hpass
        have hlti : (k : Int) < s.size := by omega
        have hx : ((s[k].toNat : Int) == 10) = false := beq_nat_f (k := 10) (by decide) hne
        have hx2 : ((s[k].toNat : Int) != 10) = true := by rw [bne, hx]; rfl
        have hck := (HB.out.below HWB.out).cell k hlt
        have HN : Hid (NInv s all w2 (k + 1) fr j wr) := Lib.hid ⟨.inr ⟨hlt, by omega, noLF_snoc s hfk hlt hno hne, hlr⟩, by omega, hfew, HI.out.below⟩
        clear hno hlr hne
        go_wp2_with fail
        go_roundw
        case rel => exact ⟨k + 1, fr, j, by go_num, rfl, rfl, HN⟩
        case measure => simp [intOf]; omega
      · obtain ⟨ps, hj, hps, hlex, hmore⟩ := line_end hk hfk hno hlr hpass
        have HMORE := Lib.hid hmore
        have HLEX := Lib.hid hlex
        have hji : (j : Int) < all.length := by omega
        have hgeb : decide (all.length ≤ j) = false := decide_eq_false (by omega)
        have hplen := HPS.out ps (List.mem_of_getElem? hps)
        obtain ⟨g, B, d, rfl, hRA⟩ := HROW.out j ps hps
        have HRA := Lib.hid (hRA.below HI.out.below)
        have r0 := HRA.out.row
        clear hno hlr hlex hmore hRA
        obtain ⟨wo, rfl⟩ : ∃ wo : World, wo = wr := ⟨_, rfl⟩
        obtain ⟨S, hS⟩ : ∃ S, s.extract fr k = S := ⟨_, rfl⟩
        have hSz : S.size = k - fr := by rw [← hS]; simp; omega
        have HCV : Hid (c ≠ fr → (convert 22 9 (.slice (some ⟨b, o + fr, none⟩) (k - fr) (c - fr))).run Tryd.prog wo = .ok (.string S) wo) := Lib.hid (fun _ => by
          have := conv_bytes (HB.out.below HWB.out) fr (k - fr) (c - fr) (by omega)
          rw [show fr + (k - fr) = k by omega, hS] at this
          exact this)
        have HCV0 : Hid (c = fr → (convert 22 9 (.slice (some ⟨b, o, none⟩) 0 0)).run Tryd.prog wo = .ok (.string S) wo) := Lib.hid (fun hcf => by
          have := conv_bytes (HB.out.below HWB.out) 0 0 0 (Nat.zero_le _)
          rw [Nat.add_zero, show s.extract 0 (0 + 0) = S from ba_eq (by
            have h1 : S.data.toList.length = 0 := by rw [len_size]; omega
            rw [List.eq_nil_of_length_eq_zero h1, ext_take]; rfl)] at this
          exact this)
        rw [hS] at HLEX
        clear hS
        have hfi : (fr : Int) ≤ k := by omega
        have hkc : (k : Int) ≤ c := by omega
        generalize hn : k - fr = n at *
        rcases (show (∃ h : k < s.size, s[k] = 10) ∨ k = s.size from by
          by_cases hlt : k < s.size
          · exact .inl ⟨hlt, Decidable.byContradiction fun h => hpass ⟨hlt, h⟩⟩
          · exact .inr (by omega)) with ⟨hlt, h10⟩ | hkeq
        · have hlti : (k : Int) < s.size := by omega
          have hck := (HB.out.below HWB.out).cell k hlt
          rw [h10] at hck
          change wo.cell? ⟨b, o + k, none⟩ = some (.int .u8 10) at hck
          have hcf : ¬ c = fr := by omega
          have hcv := HCV.out hcf
          clear h10
          go_wp2_with fail
          go_loopw [9, 10] (fun lt i wx => ∃ m : Nat, m ≤ ps.length ∧ i = .int .i64 m ∧ lt = .int .i64 (lastOf ps m) ∧ Hid (Below wo.heap.size wo wx)) (fun _ i _ => ps.length - (intOf i).toNat)
          case atStart => exact ⟨0, Nat.zero_le _, rfl, rfl, Lib.hid (Below.refl _ _)⟩
          case round =>
            obtain ⟨m, hm, rfl, rfl, HX⟩ := hrel
            have x0 := (HRA.out.below HX.out).row
            by_cases hmt : m < ps.length
            · have hmi : (m : Int) < ps.length := by omega
              have hpm : ps[m]? = some ps[m] := List.getElem?_eq_getElem hmt
              have HLL := Lib.hid (last_less HLEX.out m _ hpm)
              have HLN := Lib.hid (last_next hpm)
              have HOK := Lib.hid (names_ok HLEX.out m _ hpm).1
              obtain ⟨gt, rfl, e0, e1, e2, e3, e4, e5⟩ := (HRA.out.below HX.out).cell m _ hpm
              have hmd : (m : Int) < d := by have := HRA.out.cap; omega
              generalize ps[m] = p at *
              have l1 := HLL.out.1
              have l2 := HLL.out.2
              generalize lastOf ps m = Z at *
              have hat := HOK.out.2.1
              rw [len_size] at hat
              have hat2 : (p.at_ : Int) < n := by omega
              have q1 : ¬ ((p.at_ : Int) + 1 ≤ Z) := by omega
              have q2 : ¬ (n : Int) < (p.at_ : Int) + 1 := by omega
              have at0 : (0 : Int) ≤ (p.at_ : Int) := by omega
              have HBX : Hid (∀ o, Below wo.heap.size wo (wr.alloc o)) := Lib.hid (fun o => HX.out.alloc HX.out.size o)
              have HBXD : Hid (∀ o, Below wo.heap.size wo (wr.alloc o).drew) := Lib.hid (fun o => (HX.out.alloc HX.out.size o).drew)
              clear hpm
              by_cases hkd : p.kind = 1
              · have k1 : (p.kind == 1) = true := by rw [hkd]; rfl
                have hnm := HOK.out.2.2 hkd
                have hsz0 := hnm.1
                rw [len_size] at hsz0
                have htl : (ba p.text).size = p.text.length := ba_size p.text
                have q3 : ¬ (n : Int) < (p.at_ : Int) + (p.text.length : Int) := by omega
                have q5 : (p.at_ : Int) ≤ (p.at_ : Int) + (p.text.length : Int) := Int.le_add_of_nonneg_right (Int.natCast_nonneg _)
                have q4 : ((p.at_ : Int) + (p.text.length : Int)) ≤ n := by omega
                have hex : S.extract p.at_ (p.at_ + p.text.length) = ba p.text := ba_eq (by rw [ext_list, ba_list, List.drop_take, Nat.add_sub_cancel_left]; exact hnm.2)
                have hex2 : S.extract p.at_ ((p.at_ : Int) + (p.text.length : Int)).toNat = ba p.text := by rw [show ((p.at_ : Int) + (p.text.length : Int)).toNat = p.at_ + p.text.length by omega]; exact hex
                have hne : ((ba p.text).toList == (ba p.text).toList) = true := beq_self_eq_true _
                have hne2 : ((ba p.text).toList != (ba p.text).toList) = false := by rw [bne, hne]; rfl
                have t0 : (0 : Int) ≤ (p.text.length : Int) := by omega
                have t1 : (p.text.length : Int) ≤ 2000 := by omega
                clear hkd hnm
                generalize p.kind = K at *
                have hd3 : decide ((n : Int) < (p.at_ : Int) + (p.text.length : Int)) = false := decide_eq_false q3
                have wA : IntKind.i64.wrap ((p.at_ : Int) + 1 - 1) = (p.at_ : Int) := by rw [show (p.at_ : Int) + 1 - 1 = (p.at_ : Int) by omega]; exact IntWalk.i64_in _ (by omega)
                have wB : IntKind.i64.wrap ((p.at_ : Int) + (p.text.length : Int)) = (p.at_ : Int) + (p.text.length : Int) := IntWalk.i64_in _ (by omega)
                go_wp2_with fail
                go_quiet (fail)
                all_goals (try go_wp2_with fail)
                go_roundw
                case rel => exact ⟨m + 1, by omega, by go_num, by rw [HLN.out], Lib.hid (below_drewN (HX.out.alloc HX.out.size _) nq)⟩
                case measure => simp [intOf]; omega
              · have k1 : (p.kind == 1) = false := beq_eq_false_iff_ne.2 hkd
                go_wp2_with fail
                go_region
                all_goals (try go_wp2_with fail)
                go_roundw
                case rel => exact ⟨m + 1, by omega, by go_num, by rw [HLN.out], Lib.hid (HBXD.out _)⟩
                case measure => simp [intOf]; omega
            · obtain rfl : m = ps.length := by omega
              have HN2 : Hid (NInv s all w2 (k + 1) (k + 1) (j + 1) wr) := Lib.hid ⟨by
                rcases HMORE.out with ⟨h1, h2⟩ | ⟨h1, h2⟩
                · exact .inl ⟨h1, h2⟩
                · exact .inr ⟨h1, Nat.le_refl _, noLF_nil s _, h2⟩, by omega, hj, HI.out.below.trans (HX.out.mono HI.out.below.size)⟩
              go_wp2_with fail
              go_roundw
              case rel => exact ⟨k + 1, k + 1, j + 1, by go_num, by go_num, by go_num, HN2⟩
              case measure => simp [intOf]; omega
        · have hnlt : ¬ (k : Int) < s.size := by omega
          have hltb : decide (k < s.size) = false := decide_eq_false (by omega)
          have hkn : Hid (k = s.size) := Lib.hid hkeq
          clear hpass hki hk
          by_cases hcf : c = fr
          · have hcv := HCV0.out hcf
            obtain rfl : fr = k := by omega
            obtain rfl : c = fr := hcf
            obtain rfl : n = 0 := by omega
            clear hn hkeq
            go_wp2_with fail
            go_loopw [9, 10] (fun lt i wx => ∃ m : Nat, m ≤ ps.length ∧ i = .int .i64 m ∧ lt = .int .i64 (lastOf ps m) ∧ Hid (Below wo.heap.size wo wx)) (fun _ i _ => ps.length - (intOf i).toNat)
            case atStart => exact ⟨0, Nat.zero_le _, rfl, rfl, Lib.hid (Below.refl _ _)⟩
            case round =>
              obtain ⟨m, hm, rfl, rfl, HX⟩ := hrel
              have x0 := (HRA.out.below HX.out).row
              by_cases hmt : m < ps.length
              · exfalso
                have hpm : ps[m]? = some ps[m] := List.getElem?_eq_getElem hmt
                have hat := (names_ok HLEX.out m _ hpm).1.2.1
                rw [len_size] at hat
                omega
              · obtain rfl : m = ps.length := by omega
                have HN2 : Hid (NInv s all w2 (c + 1) (c + 1) (j + 1) wr) := Lib.hid ⟨by
                  rcases HMORE.out with ⟨h1, h2⟩ | ⟨h1, h2⟩
                  · exact .inl ⟨h1, h2⟩
                  · exact .inr ⟨h1, Nat.le_refl _, noLF_nil s _, h2⟩, by omega, hj, HI.out.below.trans (HX.out.mono HI.out.below.size)⟩
                go_wp2_with fail
                go_roundw
                case rel => exact ⟨c + 1, c + 1, j + 1, by go_num, by go_num, by go_num, HN2⟩
                case measure => simp [intOf]; omega
          · have hcv := HCV.out hcf
            clear hkeq
            go_wp2_with fail
            go_loopw [9, 10] (fun lt i wx => ∃ m : Nat, m ≤ ps.length ∧ i = .int .i64 m ∧ lt = .int .i64 (lastOf ps m) ∧ Hid (Below wo.heap.size wo wx)) (fun _ i _ => ps.length - (intOf i).toNat)
            case atStart => exact ⟨0, Nat.zero_le _, rfl, rfl, Lib.hid (Below.refl _ _)⟩
            case round =>
              obtain ⟨m, hm, rfl, rfl, HX⟩ := hrel
              have x0 := (HRA.out.below HX.out).row
              by_cases hmt : m < ps.length
              · have hmi : (m : Int) < ps.length := by omega
                have hpm : ps[m]? = some ps[m] := List.getElem?_eq_getElem hmt
                have HLL := Lib.hid (last_less HLEX.out m _ hpm)
                have HLN := Lib.hid (last_next hpm)
                have HOK := Lib.hid (names_ok HLEX.out m _ hpm).1
                obtain ⟨gt, rfl, e0, e1, e2, e3, e4, e5⟩ := (HRA.out.below HX.out).cell m _ hpm
                have hmd : (m : Int) < d := by have := HRA.out.cap; omega
                generalize ps[m] = p at *
                have l1 := HLL.out.1
                have l2 := HLL.out.2
                generalize lastOf ps m = Z at *
                have hat := HOK.out.2.1
                rw [len_size] at hat
                have hat2 : (p.at_ : Int) < n := by omega
                have q1 : ¬ ((p.at_ : Int) + 1 ≤ Z) := by omega
                have q2 : ¬ (n : Int) < (p.at_ : Int) + 1 := by omega
                have at0 : (0 : Int) ≤ (p.at_ : Int) := by omega
                have HBX : Hid (∀ o, Below wo.heap.size wo (wr.alloc o)) := Lib.hid (fun o => HX.out.alloc HX.out.size o)
                have HBXD : Hid (∀ o, Below wo.heap.size wo (wr.alloc o).drew) := Lib.hid (fun o => (HX.out.alloc HX.out.size o).drew)
                clear hpm
                by_cases hkd : p.kind = 1
                · have k1 : (p.kind == 1) = true := by rw [hkd]; rfl
                  have hnm := HOK.out.2.2 hkd
                  have hsz0 := hnm.1
                  rw [len_size] at hsz0
                  have htl : (ba p.text).size = p.text.length := ba_size p.text
                  have q3 : ¬ (n : Int) < (p.at_ : Int) + (p.text.length : Int) := by omega
                  have q5 : (p.at_ : Int) ≤ (p.at_ : Int) + (p.text.length : Int) := Int.le_add_of_nonneg_right (Int.natCast_nonneg _)
                  have q4 : ((p.at_ : Int) + (p.text.length : Int)) ≤ n := by omega
                  have hex : S.extract p.at_ (p.at_ + p.text.length) = ba p.text := ba_eq (by rw [ext_list, ba_list, List.drop_take, Nat.add_sub_cancel_left]; exact hnm.2)
                  have hex2 : S.extract p.at_ ((p.at_ : Int) + (p.text.length : Int)).toNat = ba p.text := by rw [show ((p.at_ : Int) + (p.text.length : Int)).toNat = p.at_ + p.text.length by omega]; exact hex
                  have hne : ((ba p.text).toList == (ba p.text).toList) = true := beq_self_eq_true _
                  have hne2 : ((ba p.text).toList != (ba p.text).toList) = false := by rw [bne, hne]; rfl
                  have t0 : (0 : Int) ≤ (p.text.length : Int) := by omega
                  have t1 : (p.text.length : Int) ≤ 2000 := by omega
                  clear hkd hnm
                  generalize p.kind = K at *
                  have hd3 : decide ((n : Int) < (p.at_ : Int) + (p.text.length : Int)) = false := decide_eq_false q3
                  have wA : IntKind.i64.wrap ((p.at_ : Int) + 1 - 1) = (p.at_ : Int) := by rw [show (p.at_ : Int) + 1 - 1 = (p.at_ : Int) by omega]; exact IntWalk.i64_in _ (by omega)
                  have wB : IntKind.i64.wrap ((p.at_ : Int) + (p.text.length : Int)) = (p.at_ : Int) + (p.text.length : Int) := IntWalk.i64_in _ (by omega)
                  go_wp2_with fail
                  go_quiet (fail)
                  all_goals (try go_wp2_with fail)
                  go_roundw
                  case rel => exact ⟨m + 1, by omega, by go_num, by rw [HLN.out], Lib.hid (below_drewN (HX.out.alloc HX.out.size _) nq)⟩
                  case measure => simp [intOf]; omega
                · have k1 : (p.kind == 1) = false := beq_eq_false_iff_ne.2 hkd
                  go_wp2_with fail
                  go_region
                  all_goals (try go_wp2_with fail)
                  go_roundw
                  case rel => exact ⟨m + 1, by omega, by go_num, by rw [HLN.out], Lib.hid (HBXD.out _)⟩
                  case measure => simp [intOf]; omega
              · obtain rfl : m = ps.length := by omega
                have HN2 : Hid (NInv s all w2 (k + 1) (k + 1) (j + 1) wr) := Lib.hid ⟨by
                  rcases HMORE.out with ⟨h1, h2⟩ | ⟨h1, h2⟩
                  · exact .inl ⟨h1, h2⟩
                  · exact .inr ⟨h1, Nat.le_refl _, noLF_nil s _, h2⟩, by omega, hj, HI.out.below.trans (HX.out.mono HI.out.below.size)⟩
                go_wp2_with fail
                go_roundw
                case rel => exact ⟨k + 1, k + 1, j + 1, by go_num, by go_num, by go_num, HN2⟩
                case measure => simp [intOf]; omega
end Go.Proofs.YtbhfblogjlpnlaaDoor
