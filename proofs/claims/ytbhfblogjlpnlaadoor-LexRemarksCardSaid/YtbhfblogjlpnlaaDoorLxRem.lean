/-
  LexRemarks: a remark behind a line, and blanks ahead of it, change no token but its column: the walk. Conditions: the handle of the type error; the variable internal/bytealg.MaxLen holds a number; the sources' room is within the model's bound.
-/
import Derived.Test.YtbhfblogjlpnlaaDoorLxOwnB
import Derived.Test.YtbhfblogjlpnlaaDoorLxRemS
import Derived.Test.YtbhfblogjlpnlaaDoorLxNam
import Derived.BigQuiet
namespace Go.Proofs.YtbhfblogjlpnlaaDoor
open Go.RowKit

theorem blanksAll : ∀ m : Fin 9, (⟨#[32, 32, 32, 32, 32, 32, 32, 32]⟩ : ByteArray).extract 0 m.1 = ba (List.replicate m.1 32) := by decide +kernel

theorem no_take (s : ByteArray) (k : Nat) (hk : k < s.size) (h : ∀ c ∈ s.data.toList.take k, c ≠ 10) (h10 : s[k] ≠ 10) : ∀ c ∈ s.data.toList.take (k + 1), c ≠ 10 := by
  have hk2 : k < s.data.toList.length := by simpa using hk
  rw [List.take_succ_eq_append_getElem hk2]
  intro c hc
  rcases List.mem_append.1 hc with h1 | h1
  · exact h c h1
  · rw [List.mem_singleton.1 h1]
    exact h10

set_option maxRecDepth 100000 in
set_option maxHeartbeats 4000000 in
theorem rem_walk (sa sb : ByteArray) (va vb : Value) (X Y : Int) (M : Nat) (w : World) (hv : Vars w) (ha : SrcV w va sa) (hb : SrcV w vb sb) (hsa : sa.size ≤ 1000) (hsb : sb.size ≤ 100) (x0 : 0 ≤ X) (x1 : X < 256) (hY : X % 9 = Y) (hM : Y % 8 = (M : Int)) :
    Calls Tryd.prog 8 #[va, vb, .int .u8 X] w fun e w' => e = .returned (.bool true) ∧ Below w.heap.size w w' := by
  have y0 : 0 ≤ Y := by omega
  have y1 : Y < 9 := by omega
  have m0 : (0 : Int) ≤ M := by omega
  have m1 : (M : Int) ≤ 8 := by omega
  have hM8 : M < 9 := by omega
  obtain ⟨pss, ea, hra⟩ := lines_all (cut sa.data.toList) 0
  have HAW := Lib.hid (awake_any w hv)
  have HV := Lib.hid hv
  have HSA := Lib.hid ha
  have HSB := Lib.hid hb
  have HPA := Lib.hid (pieces_le hra (m := sa.size) (fun l hl => by have := cut_mem sa.data.toList l hl; rwa [len_size] at this))
  have HLA := Lib.hid (fun W (hW : Below w.heap.size w W) => lines_src sa va pss ea W (hv.below hW) (by omega) (ha.below hW) hra)
  have HCA : Hid (∀ a b c, ea = some (a, b, c) → 1 ≤ c ∧ c ≤ 16) := Lib.hid (fun a b c he => by have := (hra.code a b c he).2.2; omega)
  have HRA := Lib.hid hra
  obtain ⟨Aa, ca, rfl, hca, _, hha⟩ := src_form ha
  obtain ⟨Ab, cb, rfl, hcb, _, hhb⟩ := src_form hb
  have HHA := Lib.hid hha
  have HHB := Lib.hid hhb
  have g1 : ¬ (1000 : Int) < sa.size := by omega
  have g2 : ¬ (100 : Int) < sb.size := by omega
  have g3 : decide ((1000 : Int) < sa.size) = false := decide_eq_false g1
  have g4 : decide ((100 : Int) < sb.size) = false := decide_eq_false g2
  clear hv ha hb hra hha hhb
  go_enter Tryd.func8, Tryd.ntmps8
  go_wp2_with fail
  refine HAW.out.mono ?_
  rintro e w1 ⟨rfl, hb1⟩
  have HB1 := Lib.hid hb1
  clear hb1
  go_wp2_with fail
  go_loop [7] (fun i => ∃ k : Nat, k ≤ sa.size ∧ i = .int .i64 k ∧ Hid (∀ c ∈ sa.data.toList.take k, c ≠ 10)) (fun i => sa.size - (intOf i).toNat)
  case atStart => exact ⟨0, Nat.zero_le _, rfl, Lib.hid (fun c hc => by simp at hc)⟩
  case round =>
    obtain ⟨k, hk, rfl, HK⟩ := hrel
    by_cases hlt : k < sa.size
    · have hki : (k : Int) < sa.size := by omega
      obtain ⟨b, o, rfl, hB⟩ := HHA.out.resolve_left (by omega)
      have hck := (hB.below HB1.out).cell k hlt
      clear hB
      by_cases h10 : sa[k] = 10
      · rw [h10] at hck
        change w1.cell? ⟨b, o + k, none⟩ = some (.int .u8 10) at hck
        clear h10
        go_wp2_with fail
        go_ret
        exact ⟨rfl, HB1.out⟩
      · have hx : ((sa[k].toNat : Int) == 10) = false := beq_nat_f (k := 10) (by decide) h10
        have HN := Lib.hid (no_take sa k hlt HK.out h10)
        clear h10
        go_wp2_with fail
        go_round
        case rel => exact ⟨k + 1, hlt, by go_num, HN⟩
        case measure => simp [intOf]; omega
    · obtain rfl : k = sa.size := by omega
      have HNA := Lib.hid HK.out
      clear HK
      go_wp2_with fail
      go_loop [8] (fun i => ∃ k : Nat, k ≤ sb.size ∧ i = .int .i64 k ∧ Hid (∀ c ∈ sb.data.toList.take k, c ≠ 10)) (fun i => sb.size - (intOf i).toNat)
      case atStart => exact ⟨0, Nat.zero_le _, rfl, Lib.hid (fun c hc => by simp at hc)⟩
      case round =>
        obtain ⟨k, hk, rfl, HK⟩ := hrel
        by_cases hlt : k < sb.size
        · have hki : (k : Int) < sb.size := by omega
          obtain ⟨b, o, rfl, hB⟩ := HHB.out.resolve_left (by omega)
          have hck := (hB.below HB1.out).cell k hlt
          clear hB
          by_cases h10 : sb[k] = 10
          · rw [h10] at hck
            change w1.cell? ⟨b, o + k, none⟩ = some (.int .u8 10) at hck
            clear h10
            go_wp2_with fail
            go_ret
            exact ⟨rfl, HB1.out⟩
          · have hx : ((sb[k].toNat : Int) == 10) = false := beq_nat_f (k := 10) (by decide) h10
            have HN := Lib.hid (no_take sb k hlt HK.out h10)
            clear h10
            go_wp2_with fail
            go_round
            case rel => exact ⟨k + 1, hlt, by go_num, HN⟩
            case measure => simp [intOf]; omega
        · obtain rfl : k = sb.size := by omega
          have HNB := Lib.hid HK.out
          clear HK
          go_wp2_with fail
          refine (HLA.out _ HB1.out).mono ?_
          rintro e w2 h2x
          obtain ⟨vx, x, rfl, hrx, _, hx0, hx1, hb2⟩ := ilines_gen (HV.out.below HB1.out) HCA.out h2x
          have HB2 := Lib.hid (HB1.out.trans (hb2.mono HB1.out.size))
          clear h2x hb2
          by_cases herr : ea = none
          case neg =>
            obtain ⟨g, rfl, rfl⟩ := hx1 herr
            clear hx0 hx1 hrx
            go_wp2_with fail
            go_ret
            exact ⟨rfl, HB2.out⟩
          subst herr
          obtain rfl := hx0 rfl
          have hna : ∀ c ∈ sa.data.toList, c ≠ 10 := by have h := HNA.out; rwa [List.take_of_length_le (by rw [len_size]; exact Nat.le_refl _)] at h
          have hnb : ∀ c ∈ sb.data.toList, c ≠ 10 := by have h := HNB.out; rwa [List.take_of_length_le (by rw [len_size]; exact Nat.le_refl _)] at h
          obtain ⟨ps, rfl, hlex⟩ := rk_one_line hna HRA.out
          obtain ⟨A, cx, rfl, hcx, hrow⟩ := hrx.form
          obtain ⟨gx, B, d, rfl, hRX⟩ := hrow 0 ps rfl
          have hsh : (shown [ps] none).length = 1 := rfl
          rw [hsh] at hcx ⊢
          have HRX := Lib.hid hRX
          have hpsl := HPA.out ps (by simp)
          have hnz : ∀ c ∈ List.replicate M 32 ++ (sa.data.toList ++ 32 :: 35 :: sb.data.toList), c ≠ 10 := by
            intro c hc
            rcases List.mem_append.1 hc with h | h
            · rw [(List.mem_replicate.1 h).2]; decide
            · rcases List.mem_append.1 h with h | h
              · exact hna c h
              · rcases List.mem_cons.1 h with rfl | h
                · decide
                · rcases List.mem_cons.1 h with rfl | h
                  · decide
                  · exact hnb c h
          have hsz : (ba (List.replicate M 32 ++ (sa.data.toList ++ 32 :: 35 :: sb.data.toList))).size = M + sa.size + 2 + sb.size := by
            rw [ba_size, List.length_append, List.length_append, List.length_replicate, List.length_cons, List.length_cons, len_size, len_size]; omega
          have HSZ := Lib.hid hsz
          have HLZ := Lib.hid (fun W v (hW : Below w.heap.size w W) h => lines_src (ba (List.replicate M 32 ++ (sa.data.toList ++ 32 :: 35 :: sb.data.toList))) v [ps.map (Piece.right M)] none W (HV.out.below hW) (by omega) h (by rw [ba_list]; exact rk_lines_one hnz (lex_both M sb.data.toList hlex)))
          have hext : (⟨#[32, 32, 32, 32, 32, 32, 32, 32]⟩ : ByteArray).extract 0 M = ba (List.replicate M 32) := blanksAll ⟨M, hM8⟩
          have hsM : (ba (List.replicate M 32)).size = M := by rw [ba_size, List.length_replicate]
          have hcb := fun W => run_bytes_of_string (P := Tryd.prog) W 9 22 5 (ba (List.replicate M 32)) Tryd.underlying9 Tryd.underlying22 Tryd.underlying5
          have HOK := Lib.hid (fun j p (hp : ps[j]? = some p) => (names_ok hlex j p hp).1.2.1)
          clear hx0 hx1 hrx hrow hRX hna hnb hnz hsz hlex
          go_wp2_with (first
            | (at_builtin; refine append_srcB rfl _ _ rfl w2.heap.size M _ (List.replicate M 32) rfl (ownB_string w2 (ba (List.replicate M 32)) M hsM (by omega) _ (Nat.le_refl _) _ (ba_list _)) _ sa rfl ((HSA.out.below HB2.out).below (((Below.refl _ _).alloc (Nat.le_refl _) _).drew)) (by omega) (by simp) ?_; intro v1 w4 hown1 hgrow1
               have hba3 : Below w2.heap.size w2 w4 := Below.grown (((Below.refl _ _).alloc (Nat.le_refl _) _).drew) hgrow1 (by simp) (fun g hg => by cases hg; exact Nat.le_refl _)
               have HB24 := Lib.hid hba3
               have HOW1 := Lib.hid hown1
               clear hown1 hgrow1 hba3)
            | (at_builtin; refine append_strB rfl _ _ rfl w2.heap.size (M + sa.size) _ _ rfl HOW1.out ⟨#[32, 35]⟩ rfl (by show M + sa.size + 2 ≤ 10000; omega) HB24.out.size ?_; intro v2 w5 hown2 hgrow2
               have hba3 : Below w2.heap.size w2 w5 := Below.grown HB24.out hgrow2 HB24.out.size (ownB_block HOW1.out)
               have HB25 := Lib.hid hba3
               have HOW2 := Lib.hid hown2
               clear hown2 hgrow2 hba3)
            | (at_builtin; refine append_srcB rfl _ _ rfl w2.heap.size _ _ _ rfl HOW2.out _ sb rfl ((HSB.out.below HB2.out).below HB25.out) (by show M + sa.size + 2 + sb.size ≤ 10000; omega) HB25.out.size ?_; intro v3 w6 hown3 hgrow3
               have hba3 : Below w2.heap.size w2 w6 := Below.grown HB25.out hgrow3 HB25.out.size (ownB_block HOW2.out)
               have HB26 := Lib.hid hba3
               have HOW3 := Lib.hid hown3
               clear hown3 hgrow3 hba3))
          have hsrc : SrcV w6 v3 (ba (List.replicate M 32 ++ (sa.data.toList ++ 32 :: 35 :: sb.data.toList))) := by
            have h := HOW3.out
            rw [show (List.replicate M 32 ++ sa.data.toList ++ (⟨#[32, 35]⟩ : ByteArray).data.toList ++ sb.data.toList) = List.replicate M 32 ++ (sa.data.toList ++ 32 :: 35 :: sb.data.toList) by simp] at h
            exact ownB_src (by rw [ba_list]; exact h)
          have HB6 := Lib.hid (HB2.out.trans (HB26.out.mono HB2.out.size))
          refine (HLZ.out _ _ HB6.out hsrc).mono ?_
          clear hsrc
          rintro e w7 h7x
          obtain ⟨vz, z, rfl, hrz, _, hz0, _, hb7⟩ := ilines_gen (HV.out.below HB6.out) (fun a b c h => by cases h) h7x
          have HB7 := Lib.hid (HB6.out.trans (hb7.mono HB6.out.size))
          have HB27 := Lib.hid (HB26.out.trans (hb7.mono HB26.out.size))
          obtain rfl := hz0 rfl
          obtain ⟨A, ck, rfl, hck, hrow⟩ := hrz.form
          obtain ⟨gk, B2, d2, rfl, hRK⟩ := hrow 0 (ps.map (Piece.right M)) rfl
          have hsh2 : (shown [ps.map (Piece.right M)] none).length = 1 := rfl
          rw [hsh2] at hck ⊢
          have HRK := Lib.hid hRK
          have HRX7 := Lib.hid (HRX.out.below HB27.out)
          have r0 : w7.cell? ⟨gx, 0, none⟩ = some (.slice B ps.length d) := HRX7.out.row
          have r1 : w7.cell? ⟨gk, 0, none⟩ = some (.slice B2 ps.length d2) := by have h := HRK.out.row; rwa [List.length_map] at h
          have hcx1 : (1 : Int) ≤ cx := by omega
          have hck1 : (1 : Int) ≤ ck := by omega
          have hne : ((ps.length : Int) != ps.length) = false := by rw [bne, beq_self_eq_true]; rfl
          clear h7x hb7 hrz hz0 hrow hRK hcb hext hsM
          go_wp2_with fail
          go_quiet (fail)
          all_goals (try go_wp2_with fail)
          go_loopw [15] (fun i wx => ∃ j : Nat, j ≤ ps.length ∧ i = .int .i64 j ∧ Hid (Below w7.heap.size w7 wx)) (fun i _ => ps.length - (intOf i).toNat)
          case atStart => exact ⟨0, Nat.zero_le _, rfl, Lib.hid (below_drewN (Below.refl _ _) _)⟩
          case round =>
            obtain ⟨j, hj, rfl, HX⟩ := hrel
            have s0 := (HRX7.out.below HX.out).row
            have s1 : wr.cell? ⟨gk, 0, none⟩ = some (.slice B2 ps.length d2) := by have h := (HRK.out.below HX.out).row; rwa [List.length_map] at h
            by_cases hjt : j < ps.length
            · have hji : (j : Int) < ps.length := by omega
              have hpj : ps[j]? = some ps[j] := List.getElem?_eq_getElem hjt
              have hqj : (ps.map (Piece.right M))[j]? = some (Piece.right M ps[j]) := by rw [List.getElem?_map, hpj]; rfl
              obtain ⟨gt, rfl, e0, e1, e2, e3, e4, e5⟩ := (HRX7.out.below HX.out).cell j _ hpj
              obtain ⟨gu, rfl, f0, f1, f2, f3, f4, f5⟩ := (HRK.out.below HX.out).cell j _ hqj
              have hjd : (j : Int) < d := by have := HRX7.out.cap; omega
              have hjd2 : (j : Int) < d2 := by have := HRK.out.cap; rw [List.length_map] at this; omega
              have hat := HOK.out j _ hpj
              rw [len_size] at hat
              generalize ps[j] = p at *
              change wr.cell? ⟨gt, j * 6 + 1, none⟩ = some (.int .i64 1) at e1
              change wr.cell? ⟨gu, j * 6, none⟩ = some (.int .i64 p.kind) at f0
              change wr.cell? ⟨gu, j * 6 + 1, none⟩ = some (.int .i64 1) at f1
              change wr.cell? ⟨gu, j * 6 + 2, none⟩ = some (.int .i64 (((M + p.at_ : Nat) : Int) + 1)) at f2
              rw [show (((M + p.at_ : Nat) : Int) + 1) = (p.at_ : Int) + 1 + M by omega] at f2
              change wr.cell? ⟨gu, j * 6 + 3, none⟩ = some (.string (ba p.text)) at f3
              change wr.cell? ⟨gu, j * 6 + 4, none⟩ = some (.int .u32 p.num) at f4
              have a0 : (0 : Int) ≤ (p.at_ : Int) := by omega
              have a1 : (p.at_ : Int) ≤ 1000 := by omega
              have hnt := fun W => neq_toks p.kind 1 ((p.at_ : Int) + 1 + M) p.num 0 (ba p.text) W
              have hup : ∀ (o : Obj) (a : Addr) (v : Value), wr.cell? a = some v → (wr.alloc o).cell? a = some v := fun o a v hv => (((Below.refl _ wr).alloc (Nat.le_refl _) o).cell (p := a) (World.block_lt_of_cell? wr a hv)).trans hv
              have t1 := fun o => hup o _ _ s1
              have k0 := fun o => hup o _ _ f0
              have k1 := fun o => hup o _ _ f1
              have k2 := fun o => hup o _ _ f2
              have k3 := fun o => hup o _ _ f3
              have k4 := fun o => hup o _ _ f4
              have k5 := fun o => hup o _ _ f5
              clear hpj hqj hat hup
              go_wp2_with fail
              go_quiet (fail)
              all_goals (try go_wp2_with fail)
              go_roundw
              case rel => exact ⟨j + 1, by omega, by go_num, Lib.hid (below_drewN (HX.out.alloc HX.out.size _) _)⟩
              case measure => simp [intOf]; omega
            · obtain rfl : j = ps.length := by omega
              go_wp2_with fail
              go_ret
              exact ⟨rfl, HB7.out.trans (HX.out.mono HB7.out.size)⟩
end Go.Proofs.YtbhfblogjlpnlaaDoor
