/-
  The contract of the reference's End, where the place is an opener's line of the kind 3. Conditions: at most 4000 lines, whose cells, and whose first tokens' cells, are there.
-/
import Derived.Test.YtccomiigdpfbpaaDoorRef3
namespace Go.Proofs.YtccomiigdpfbpaaDoor
open Go.RowKit

set_option maxRecDepth 100000 in
set_option maxHeartbeats 16000000 in
theorem ref_run3 (F : Lns) (B O n cap i : Nat) (w : World) (hn : n ≤ 4000) (hF : F.In w B O n) (hi : i < n) (hk : F.kind i = 3) :
    Calls Tryd.prog 10 #[.slice (some ⟨B, O, none⟩) n cap, .int .i64 i] w (RefOut w (endRun F n i (i + 1) [((F.kind i : Int), -1)])) := by
  have hb0 : Below w.heap.size w (w.alloc (.cells #[.int .i64 0, .int .i64 0, .int .i64 0] 30)) := (Below.refl _ _).alloc (Nat.le_refl _) _
  have hl := hF.below hb0 i hi
  have hc := hl.cell
  have hkl := refKindLine hl
  obtain ⟨R, hR⟩ : ∃ R, R = endRun F n i (i + 1) [((F.kind i : Int), -1)] := ⟨_, rfl⟩
  rw [← hR]
  obtain ⟨i0, hi0, hz0, hz1, hz2⟩ := info_parts Tryd.infoInt
  have HR := Lib.hid hR
  have HF := Lib.hid hF
  have i0' : ¬ (i : Int) < 0 := by omega
  have i1 : ¬ (n : Int) ≤ i := by omega
  have h1 : (((F.kind i : Int) != 1) = true) := by rw [hk]; decide
  have h3 : (((F.kind i : Int) != 3) = false) := by rw [hk]; decide
  clear hF hk hR hb0 hl
  go_enter Tryd.func10, Tryd.ntmps10
  go_wp2_with fail
  refine hkl.mono ?_
  rintro e w1 ⟨rfl, hb1⟩
  clear hkl hc
  have hb1s := hb1.size
  simp at hb1s
  have hb1' : Below (w.heap.size + 1) (w.alloc (.cells #[.int .i64 0, .int .i64 0, .int .i64 0] 30)) w1 := hb1.mono (by simp)
  have hstart : ∀ x : Int, Rows2 ((w1.alloc (.cells #[.int .i64 x] 3)).alloc (.cells #[.int .i64 (-1)] 3)) (w.heap.size + 1) (.slice (some ⟨w1.heap.size, 0, none⟩) 1 1) (.slice (some ⟨w1.heap.size + 1, 0, none⟩) 1 1) [(x, -1)] := by
    intro x
    refine ⟨?_, ?_, by simp [Value.ownBlock]⟩
    · have := World.ownsRow_lit (base := w.heap.size + 1) (e := 3) (size := 1) w1 #[.int .i64 x] 1 hb1s (by decide) rfl
      simpa [k1] using this.alloc (.cells #[.int .i64 (-1)] 3)
    · have := World.ownsRow_lit (base := w.heap.size + 1) (e := 3) (size := 1) (w1.alloc (.cells #[.int .i64 x] 3)) #[.int .i64 (-1)] 1 (by simp; omega) (by decide) rfl
      simpa [k2] using this
  have hbst : ∀ x : Int, Below (w.heap.size + 1) (w.alloc (.cells #[.int .i64 0, .int .i64 0, .int .i64 0] 30)) ((w1.alloc (.cells #[.int .i64 x] 3)).alloc (.cells #[.int .i64 (-1)] 3)) := fun x => (hb1'.alloc hb1s _).alloc (by simp; omega) _
  have HST := Lib.hid hstart
  have HBS := Lib.hid hbst
  clear hstart hbst hb1 hb1' hb1s
  all_goals
    go_wp2
    go_loopw [8, 9, 10] (fun v8 v9 j wr => ∃ k : Nat, j = .int .i64 k ∧ i + 1 ≤ k ∧ k ≤ n ∧ RefAtK F n i w R k v8 v9 wr) (fun _ _ j _ => n - (intOf j).toNat)
    case atStart => exact ⟨i + 1, by go_num, Nat.le_refl _, by omega, (F.kind i : Int), -1, [], HR.out.symm, HST.out _, by simp, HBS.out _⟩
    case round =>
      obtain ⟨k, rfl, hik, hkn, a, o, rest, hrun, hrows, hlen, hbel⟩ := hrel
      have HRUN := Lib.hid hrun
      obtain ⟨g8, c8, g9, c9, rfl, rfl, hne, hbb8, hbb9, hl8, hl9, hc8, hc9, _⟩ := hrows.parts
      have hbs := hbel.size
      simp at hbs
      have hFr := HF.out.below (below_of_inv hbel)
      by_cases hlt : k < n
      · have hlk := hFr k hlt
        have hck := hlk.cell
        have hkk := refKindLine hlk
        -- what every world behind holds
        have hK : ∀ W, Below wr.heap.size wr W → Rows2 W (w.heap.size + 1) (.slice (some ⟨g8, 0, none⟩) (rest.length + 1) c8) (.slice (some ⟨g9, 0, none⟩) (rest.length + 1) c9) ((a, o) :: rest).reverse ∧ F.At W B O k ∧ Below (w.heap.size + 1) (w.alloc (.cells #[.int .i64 0, .int .i64 0, .int .i64 0] 30)) W :=
          fun W h => ⟨hrows.below h, HF.out.below ((below_of_inv hbel).trans (h.mono (by omega))) k hlt, hbel.trans (h.mono (by omega))⟩
        have HK := Lib.hid hK
        have hAT : ∀ W W', Below (w.heap.size + 1) (w.alloc (.cells #[.int .i64 0, .int .i64 0, .int .i64 0] 30)) W → Below W.heap.size W W' → Below (w.heap.size + 1) (w.alloc (.cells #[.int .i64 0, .int .i64 0, .int .i64 0] 30)) W' := fun W W' h h' => h.trans (h'.mono (by have := h.size; simpa using this))
        have HAT := Lib.hid hAT
        have hlr : ((a, o) :: rest).reverse.length = rest.length + 1 := by simp
        clear hK hAT hrun hrows hbel hFr hlk hbb8
        rcases (show F.kind k = 0 ∨ F.kind k = 1 ∨ F.kind k = 2 ∨ F.kind k = 3 ∨ F.kind k = 4 ∨ F.kind k = 5 ∨ F.kind k = 6 ∨ F.kind k = 7 by have := F.kind_le k; omega) with hkk_ | hkk_ | hkk_ | hkk_ | hkk_ | hkk_ | hkk_ | hkk_
        all_goals rw [hkk_] at hkk
        · have hs : stepR rest a o (F.kind k) k = some ((a, o) :: rest) := by rw [hkk_]; rfl
          have HN : Hid (endRun F n i (k + 1) ((a, o) :: rest) = R) := (endRun_on F n i k a o rest (a, o) rest hlt hs).symm.trans HRUN.out
          clear hs hkk_
          go_wp2_with (go_at_call 13; refine hkk.mono ?_; rintro e wk ⟨rfl, hbk⟩; obtain ⟨hrk, hatk, hbel⟩ := HK.out wk hbk; have HRK := Lib.hid hrk; have HBEL := Lib.hid hbel; clear hrk hbel)
          go_roundw
          case rel => exact ⟨k + 1, by go_num, by omega, by omega, a, o, rest, HN.out, HRK.out, by omega, HBEL.out⟩
          case measure => simp [intOf]; omega
        · have hs : stepR rest a o (F.kind k) k = some ((1, -1) :: (a, o) :: rest) := by rw [hkk_]; rfl
          have HN : Hid (endRun F n i (k + 1) ((1, -1) :: (a, o) :: rest) = R) := (endRun_on F n i k a o rest (1, -1) ((a, o) :: rest) hlt hs).symm.trans HRUN.out
          clear hs hkk_
          go_wp2_with (first | (go_at_call 13; refine hkk.mono ?_; rintro e wk ⟨rfl, hbk⟩; obtain ⟨hrk, hatk, hbel⟩ := HK.out wk hbk; obtain ⟨_, _, _, _, e8', e9', _, _, _, hl8k, hl9k, _, _, ca, co, cf, clo, holds8, holds9⟩ := hrk.parts; cases e8'; cases e9'; have hck2 := hatk.cell; have HRK := Lib.hid hrk; have HBEL := Lib.hid hbel; have HO8 := Lib.hid holds8; have HO9 := Lib.hid holds9; have he := refErrLine 15 hatk; obtain ⟨f0, f1, f2, z0, z1, z2⟩ := resAt hbel; clear hrk hbel holds8 holds9) | (at_builtin; have o8 := HRK.out.own8; rw [hlr] at o8; refine wpList_append_own_at _ rfl (.tmp 69) (.tmp 71) 54 rfl (w.heap.size + 1) 3 i0 (.int .i64 0) 1 8 Tryd.underlying54 hi0 hz0 hz1 hz2 rfl (by decide) _ _ _ rfl (o8.alloc _) ⟨wk.heap.size, 0, none⟩ 1 1 [.int .i64 1] rfl rfl (cell_one_new wk _ _) (by intro u hu; simp at hu; subst hu; rfl) (by unfold maxLen; omega) (by omega) (by have := HBEL.out.size; simp at this; simp; omega) ?_; intro v8' w2 hown8 hgr8 _ hat8; have HG8 := Lib.hid hgr8; have HW8 := Lib.hid hown8; have HT8 := Lib.hid hat8; clear hgr8 hown8 hat8 o8) | (at_builtin; have o9 := HRK.out.own9; rw [hlr] at o9; have o9' := (o9.alloc (.cells #[.int .i64 1] 3)).kept HG8.out (.inr (fun e => HRK.out.ne e.symm)); refine wpList_append_own_at _ rfl (.tmp 73) (.tmp 74) 54 rfl (w.heap.size + 1) 3 i0 (.int .i64 0) 1 8 Tryd.underlying54 hi0 hz0 hz1 hz2 rfl (by decide) _ _ _ rfl (o9'.alloc _) ⟨w2.heap.size, 0, none⟩ 1 1 [.int .i64 (-1)] rfl rfl (cell_one_new w2 _ _) (by intro u hu; simp at hu; subst hu; rfl) (by unfold maxLen; omega) (by omega) (by have := HBEL.out.size; have := HG8.out.size; simp at *; omega) ?_; intro v9' w3 hown9 hgr9 _ hat9; have RR := Lib.hid (Rows2.push HRK.out (by simp) (by rw [hlr]; exact HW8.out) HG8.out HT8.out (by rw [hlr]; exact hown9) hgr9 hat9); have HG9 := Lib.hid hgr9; clear hgr9 hown9 hat9 o9 o9'))
          go_roundw
          case rel =>
            refine ⟨k + 1, by go_num, by omega, by omega, 1, -1, (a, o) :: rest, HN.out, by simpa using RR.out, by simp; omega, ?_⟩
            have h1 := HBEL.out.size
            simp at h1
            have h2 := HG8.out.size
            simp at h2
            refine Below.grown (Below.alloc (Below.grown (HBEL.out.alloc h1 _) HG8.out (by simp; omega) (fun x hx => ((HRK.out.own8).lt x hx).1)) (by omega) _) HG9.out (by simp; omega) (fun x hx => ((HRK.out.own9).lt x hx).1)
          case measure => simp [intOf]; omega
        · by_cases ha : a = 1
          · have ha5 : (a != 1) = false := by simp [ha]
            obtain rfl | ⟨x, r, hre⟩ : rest = [] ∨ ∃ x r, rest = x :: r := by cases rest with | nil => exact .inl rfl | cons x r => exact .inr ⟨x, r, rfl⟩
            case inl =>
              have hR : R = .ok k (lastOther a o []) := HRUN.out.symm.trans (endRun_ok F n i k a o [] hlt (by rw [hkk_]; simp [stepR, ha]))
              have HR2 := Lib.hid hR
              clear hR hkk_ ha
              go_wp2_with (go_at_call 13; refine hkk.mono ?_; rintro e wk ⟨rfl, hbk⟩; obtain ⟨hrk, hatk, hbel⟩ := HK.out wk hbk; obtain ⟨_, _, _, _, e8', e9', _, _, _, hl8k, hl9k, _, _, ca, co, cf, clo, holds8, holds9⟩ := hrk.parts; cases e8'; cases e9'; simp only [List.length_nil] at ca co cf; have hck2 := hatk.cell; have HRK := Lib.hid hrk; have HBEL := Lib.hid hbel; have HO8 := Lib.hid holds8; have HO9 := Lib.hid holds9; have he := refErrLine 15 hatk; obtain ⟨f0, f1, f2, z0, z1, z2⟩ := resAt hbel; clear hrk hbel holds8 holds9)
              go_region
              all_goals (try go_wp2)
              all_goals
                refine bodyPost_ret (v := .tuple #[.int .i64 k, .int .i64 (lastOther a o []), .agg #[.int .i64 0, .int .i64 0, .int .i64 0]]) (by simp [results, Tryd.results10, go_sem, f0, f1, f2, lastOther]) rfl ?_
                rw [HR2.out]
                exact ⟨rfl, ((((below_of_inv HBEL.out).setCell (by simp) _).setCell (by simp) _).setCell (by simp) _).drew⟩
            case inr =>
              have hs : stepR rest a o (F.kind k) k = some (x :: r) := by rw [hkk_, hre]; simp [stepR, ha]
              have HN : Hid (endRun F n i (k + 1) (x :: r) = R) := (endRun_on F n i k a o rest x r hlt hs).symm.trans HRUN.out
              have hrl : rest.length = r.length + 1 := by rw [hre]; rfl
              have hn1 : (((rest.length : Int) + 1) == 1) = false := by simp; omega
              have hlr2 : rest.reverse.length = rest.length := by simp
              have HRE := Lib.hid hre
              clear hre hrl
              clear hs hkk_ ha
              go_wp2_with (first | (go_at_call 13; refine hkk.mono ?_; rintro e wk ⟨rfl, hbk⟩; obtain ⟨hrk, hatk, hbel⟩ := HK.out wk hbk; obtain ⟨_, _, _, _, e8', e9', _, _, _, hl8k, hl9k, _, _, ca, co, cf, clo, holds8, holds9⟩ := hrk.parts; cases e8'; cases e9'; have hck2 := hatk.cell; have HRK := Lib.hid hrk; have HBEL := Lib.hid hbel; have HO8 := Lib.hid holds8; have HO9 := Lib.hid holds9; have he := refErrLine 15 hatk; obtain ⟨f0, f1, f2, z0, z1, z2⟩ := resAt hbel; clear hrk hbel holds8 holds9) | (at_builtin; refine wpList_append_own_at _ rfl (.tmp 150) (.tmp 154) 54 rfl (w.heap.size + 1) 3 i0 (.int .i64 0) 1 8 Tryd.underlying54 hi0 hz0 hz1 hz2 rfl (by decide) _ _ _ rfl (World.ownsRow_made wk #[] 0 (by have := HBEL.out.size; simpa using this) (by decide) rfl) ⟨g8, 0, none⟩ rest.length _ (k1 rest.reverse) rfl (by rw [k1_len]; simp) (fun j u hu => (World.cell?_alloc_lt _ _ _ (by rw [show ((⟨g8, 0, none⟩ : Addr).add j).block = g8 from by unfold Addr.add; split <;> rfl]; exact hl8k)).trans (HO8.out j u hu)) (k1_one _) (by unfold maxLen; omega) (by omega) (by have := HBEL.out.size; simp at this; simp; omega) ?_; intro v8' w2 hown8 hgr8 _ hat8; simp only [Nat.zero_add, List.nil_append] at hown8; have HG8 := Lib.hid hgr8; have HW8 := Lib.hid hown8; clear hgr8 hown8 hat8) | (at_builtin; refine wpList_append_own_at _ rfl (.tmp 156) (.tmp 160) 54 rfl (w.heap.size + 1) 3 i0 (.int .i64 0) 1 8 Tryd.underlying54 hi0 hz0 hz1 hz2 rfl (by decide) _ _ _ rfl (World.ownsRow_made w2 #[] 0 (by have h1 := HBEL.out.size; simp at h1; have h2 := HG8.out.size; simp at h2; omega) (by decide) rfl) ⟨g9, 0, none⟩ rest.length _ (k2 rest.reverse) rfl (by rw [k2_len]; simp) (fun j u hu => pop_cell hl9k HG8.out (HO9.out j u hu)) (k2_one _) (by unfold maxLen; omega) (by omega) (by have h1 := HBEL.out.size; simp at h1; have h2 := HG8.out.size; simp at h2; simp; omega) ?_; intro v9' w3 hown9 hgr9 _ hat9; simp only [Nat.zero_add, List.nil_append] at hown9; have RR := Lib.hid (Rows2.pop (st := rest.reverse) (by rw [HRE.out]; simp) (by rw [hlr2]; exact HW8.out) (by rw [hlr2]; exact hown9) hgr9 hat9); have HG9 := Lib.hid hgr9; clear hgr9 hown9 hat9))
              go_roundw
              case rel =>
                refine ⟨k + 1, by go_num, by omega, by omega, x.1, x.2, r, HN.out, HRE.out ▸ RR.out, by have := congrArg List.length HRE.out; simp at this; omega, ?_⟩
                have h1 := HBEL.out.size
                simp at h1
                have h2 := HG8.out.size
                simp at h2
                exact Below.grown (Below.alloc (Below.grown (HBEL.out.alloc h1 _) HG8.out (by simp; omega) (fun x hx => by cases hx; exact h1)) (by omega) _) HG9.out (by simp; omega) (fun x hx => by cases hx; simp; omega)
              case measure => simp [intOf]; omega
          · have hR : R = .bad (F.line k) (F.col k) := HRUN.out.symm.trans (endRun_bad F n i k a o rest hlt (by rw [hkk_]; simp [stepR, ha]))
            have ha5 : (a != 1) = true := by simpa using ha
            clear hkk_ ha
            have HR2 := Lib.hid hR
            clear hR
            go_wp2_with (first | (go_at_call 13; refine hkk.mono ?_; rintro e wk ⟨rfl, hbk⟩; obtain ⟨hrk, hatk, hbel⟩ := HK.out wk hbk; obtain ⟨_, _, _, _, e8', e9', _, _, _, hl8k, hl9k, _, _, ca, co, cf, clo, holds8, holds9⟩ := hrk.parts; cases e8'; cases e9'; have hck2 := hatk.cell; have HRK := Lib.hid hrk; have HBEL := Lib.hid hbel; have HO8 := Lib.hid holds8; have HO9 := Lib.hid holds9; have he := refErrLine 15 hatk; obtain ⟨f0, f1, f2, z0, z1, z2⟩ := resAt hbel; clear hrk hbel holds8 holds9) | (go_at_call 20; refine he.mono ?_; rintro e w2 ⟨rfl, hb2⟩; have hbel2 := HAT.out wk w2 HBEL.out hb2; obtain ⟨p0, p1, p2, q0, q1, q2⟩ := resAt hbel2; have HBEL2 := Lib.hid hbel2; clear hbel2))
            refine bodyPost_ret (v := .tuple #[.int .i64 0, .int .i64 0, .agg #[.int .i64 (F.line k), .int .i64 (F.col k), .int .i64 15]]) (by simp [results, Tryd.results10, go_sem, p0, p1, p2]) rfl ?_
            rw [HR2.out]
            exact ⟨rfl, (((below_of_inv HBEL2.out).setCell (by simp) _).setCell (by simp) _).setCell (by simp) _⟩
        · have hs : stepR rest a o (F.kind k) k = some ((3, -1) :: (a, o) :: rest) := by rw [hkk_]; rfl
          have HN : Hid (endRun F n i (k + 1) ((3, -1) :: (a, o) :: rest) = R) := (endRun_on F n i k a o rest (3, -1) ((a, o) :: rest) hlt hs).symm.trans HRUN.out
          clear hs hkk_
          go_wp2_with (first | (go_at_call 13; refine hkk.mono ?_; rintro e wk ⟨rfl, hbk⟩; obtain ⟨hrk, hatk, hbel⟩ := HK.out wk hbk; obtain ⟨_, _, _, _, e8', e9', _, _, _, hl8k, hl9k, _, _, ca, co, cf, clo, holds8, holds9⟩ := hrk.parts; cases e8'; cases e9'; have hck2 := hatk.cell; have HRK := Lib.hid hrk; have HBEL := Lib.hid hbel; have HO8 := Lib.hid holds8; have HO9 := Lib.hid holds9; have he := refErrLine 15 hatk; obtain ⟨f0, f1, f2, z0, z1, z2⟩ := resAt hbel; clear hrk hbel holds8 holds9) | (at_builtin; have o8 := HRK.out.own8; rw [hlr] at o8; refine wpList_append_own_at _ rfl (.tmp 69) (.tmp 71) 54 rfl (w.heap.size + 1) 3 i0 (.int .i64 0) 1 8 Tryd.underlying54 hi0 hz0 hz1 hz2 rfl (by decide) _ _ _ rfl (o8.alloc _) ⟨wk.heap.size, 0, none⟩ 1 1 [.int .i64 3] rfl rfl (cell_one_new wk _ _) (by intro u hu; simp at hu; subst hu; rfl) (by unfold maxLen; omega) (by omega) (by have := HBEL.out.size; simp at this; simp; omega) ?_; intro v8' w2 hown8 hgr8 _ hat8; have HG8 := Lib.hid hgr8; have HW8 := Lib.hid hown8; have HT8 := Lib.hid hat8; clear hgr8 hown8 hat8 o8) | (at_builtin; have o9 := HRK.out.own9; rw [hlr] at o9; have o9' := (o9.alloc (.cells #[.int .i64 3] 3)).kept HG8.out (.inr (fun e => HRK.out.ne e.symm)); refine wpList_append_own_at _ rfl (.tmp 73) (.tmp 74) 54 rfl (w.heap.size + 1) 3 i0 (.int .i64 0) 1 8 Tryd.underlying54 hi0 hz0 hz1 hz2 rfl (by decide) _ _ _ rfl (o9'.alloc _) ⟨w2.heap.size, 0, none⟩ 1 1 [.int .i64 (-1)] rfl rfl (cell_one_new w2 _ _) (by intro u hu; simp at hu; subst hu; rfl) (by unfold maxLen; omega) (by omega) (by have := HBEL.out.size; have := HG8.out.size; simp at *; omega) ?_; intro v9' w3 hown9 hgr9 _ hat9; have RR := Lib.hid (Rows2.push HRK.out (by simp) (by rw [hlr]; exact HW8.out) HG8.out HT8.out (by rw [hlr]; exact hown9) hgr9 hat9); have HG9 := Lib.hid hgr9; clear hgr9 hown9 hat9 o9 o9'))
          go_roundw
          case rel =>
            refine ⟨k + 1, by go_num, by omega, by omega, 3, -1, (a, o) :: rest, HN.out, by simpa using RR.out, by simp; omega, ?_⟩
            have h1 := HBEL.out.size
            simp at h1
            have h2 := HG8.out.size
            simp at h2
            refine Below.grown (Below.alloc (Below.grown (HBEL.out.alloc h1 _) HG8.out (by simp; omega) (fun x hx => ((HRK.out.own8).lt x hx).1)) (by omega) _) HG9.out (by simp; omega) (fun x hx => ((HRK.out.own9).lt x hx).1)
          case measure => simp [intOf]; omega
        · by_cases ha : a = 3
          · have ha5 : (a != 3) = false := by simp [ha]
            obtain rfl | ⟨x, r, hre⟩ : rest = [] ∨ ∃ x r, rest = x :: r := by cases rest with | nil => exact .inl rfl | cons x r => exact .inr ⟨x, r, rfl⟩
            case inl =>
              have hR : R = .ok k (lastOther a o []) := HRUN.out.symm.trans (endRun_ok F n i k a o [] hlt (by rw [hkk_]; simp [stepR, ha]))
              have HR2 := Lib.hid hR
              clear hR hkk_ ha
              go_wp2_with (go_at_call 13; refine hkk.mono ?_; rintro e wk ⟨rfl, hbk⟩; obtain ⟨hrk, hatk, hbel⟩ := HK.out wk hbk; obtain ⟨_, _, _, _, e8', e9', _, _, _, hl8k, hl9k, _, _, ca, co, cf, clo, holds8, holds9⟩ := hrk.parts; cases e8'; cases e9'; simp only [List.length_nil] at ca co cf; have hck2 := hatk.cell; have HRK := Lib.hid hrk; have HBEL := Lib.hid hbel; have HO8 := Lib.hid holds8; have HO9 := Lib.hid holds9; have he := refErrLine 15 hatk; obtain ⟨f0, f1, f2, z0, z1, z2⟩ := resAt hbel; clear hrk hbel holds8 holds9)
              go_region
              all_goals (try go_wp2)
              all_goals
                refine bodyPost_ret (v := .tuple #[.int .i64 k, .int .i64 (lastOther a o []), .agg #[.int .i64 0, .int .i64 0, .int .i64 0]]) (by simp [results, Tryd.results10, go_sem, f0, f1, f2, lastOther]) rfl ?_
                rw [HR2.out]
                exact ⟨rfl, ((((below_of_inv HBEL.out).setCell (by simp) _).setCell (by simp) _).setCell (by simp) _).drew⟩
            case inr =>
              have hs : stepR rest a o (F.kind k) k = some (x :: r) := by rw [hkk_, hre]; simp [stepR, ha]
              have HN : Hid (endRun F n i (k + 1) (x :: r) = R) := (endRun_on F n i k a o rest x r hlt hs).symm.trans HRUN.out
              have hrl : rest.length = r.length + 1 := by rw [hre]; rfl
              have hn1 : (((rest.length : Int) + 1) == 1) = false := by simp; omega
              have hlr2 : rest.reverse.length = rest.length := by simp
              have HRE := Lib.hid hre
              clear hre hrl
              clear hs hkk_ ha
              go_wp2_with (first | (go_at_call 13; refine hkk.mono ?_; rintro e wk ⟨rfl, hbk⟩; obtain ⟨hrk, hatk, hbel⟩ := HK.out wk hbk; obtain ⟨_, _, _, _, e8', e9', _, _, _, hl8k, hl9k, _, _, ca, co, cf, clo, holds8, holds9⟩ := hrk.parts; cases e8'; cases e9'; have hck2 := hatk.cell; have HRK := Lib.hid hrk; have HBEL := Lib.hid hbel; have HO8 := Lib.hid holds8; have HO9 := Lib.hid holds9; have he := refErrLine 15 hatk; obtain ⟨f0, f1, f2, z0, z1, z2⟩ := resAt hbel; clear hrk hbel holds8 holds9) | (at_builtin; refine wpList_append_own_at _ rfl (.tmp 150) (.tmp 154) 54 rfl (w.heap.size + 1) 3 i0 (.int .i64 0) 1 8 Tryd.underlying54 hi0 hz0 hz1 hz2 rfl (by decide) _ _ _ rfl (World.ownsRow_made wk #[] 0 (by have := HBEL.out.size; simpa using this) (by decide) rfl) ⟨g8, 0, none⟩ rest.length _ (k1 rest.reverse) rfl (by rw [k1_len]; simp) (fun j u hu => (World.cell?_alloc_lt _ _ _ (by rw [show ((⟨g8, 0, none⟩ : Addr).add j).block = g8 from by unfold Addr.add; split <;> rfl]; exact hl8k)).trans (HO8.out j u hu)) (k1_one _) (by unfold maxLen; omega) (by omega) (by have := HBEL.out.size; simp at this; simp; omega) ?_; intro v8' w2 hown8 hgr8 _ hat8; simp only [Nat.zero_add, List.nil_append] at hown8; have HG8 := Lib.hid hgr8; have HW8 := Lib.hid hown8; clear hgr8 hown8 hat8) | (at_builtin; refine wpList_append_own_at _ rfl (.tmp 156) (.tmp 160) 54 rfl (w.heap.size + 1) 3 i0 (.int .i64 0) 1 8 Tryd.underlying54 hi0 hz0 hz1 hz2 rfl (by decide) _ _ _ rfl (World.ownsRow_made w2 #[] 0 (by have h1 := HBEL.out.size; simp at h1; have h2 := HG8.out.size; simp at h2; omega) (by decide) rfl) ⟨g9, 0, none⟩ rest.length _ (k2 rest.reverse) rfl (by rw [k2_len]; simp) (fun j u hu => pop_cell hl9k HG8.out (HO9.out j u hu)) (k2_one _) (by unfold maxLen; omega) (by omega) (by have h1 := HBEL.out.size; simp at h1; have h2 := HG8.out.size; simp at h2; simp; omega) ?_; intro v9' w3 hown9 hgr9 _ hat9; simp only [Nat.zero_add, List.nil_append] at hown9; have RR := Lib.hid (Rows2.pop (st := rest.reverse) (by rw [HRE.out]; simp) (by rw [hlr2]; exact HW8.out) (by rw [hlr2]; exact hown9) hgr9 hat9); have HG9 := Lib.hid hgr9; clear hgr9 hown9 hat9))
              go_roundw
              case rel =>
                refine ⟨k + 1, by go_num, by omega, by omega, x.1, x.2, r, HN.out, HRE.out ▸ RR.out, by have := congrArg List.length HRE.out; simp at this; omega, ?_⟩
                have h1 := HBEL.out.size
                simp at h1
                have h2 := HG8.out.size
                simp at h2
                exact Below.grown (Below.alloc (Below.grown (HBEL.out.alloc h1 _) HG8.out (by simp; omega) (fun x hx => by cases hx; exact h1)) (by omega) _) HG9.out (by simp; omega) (fun x hx => by cases hx; simp; omega)
              case measure => simp [intOf]; omega
          · have hR : R = .bad (F.line k) (F.col k) := HRUN.out.symm.trans (endRun_bad F n i k a o rest hlt (by rw [hkk_]; simp [stepR, ha]))
            have ha5 : (a != 3) = true := by simpa using ha
            clear hkk_ ha
            have HR2 := Lib.hid hR
            clear hR
            go_wp2_with (first | (go_at_call 13; refine hkk.mono ?_; rintro e wk ⟨rfl, hbk⟩; obtain ⟨hrk, hatk, hbel⟩ := HK.out wk hbk; obtain ⟨_, _, _, _, e8', e9', _, _, _, hl8k, hl9k, _, _, ca, co, cf, clo, holds8, holds9⟩ := hrk.parts; cases e8'; cases e9'; have hck2 := hatk.cell; have HRK := Lib.hid hrk; have HBEL := Lib.hid hbel; have HO8 := Lib.hid holds8; have HO9 := Lib.hid holds9; have he := refErrLine 15 hatk; obtain ⟨f0, f1, f2, z0, z1, z2⟩ := resAt hbel; clear hrk hbel holds8 holds9) | (go_at_call 20; refine he.mono ?_; rintro e w2 ⟨rfl, hb2⟩; have hbel2 := HAT.out wk w2 HBEL.out hb2; obtain ⟨p0, p1, p2, q0, q1, q2⟩ := resAt hbel2; have HBEL2 := Lib.hid hbel2; clear hbel2))
            refine bodyPost_ret (v := .tuple #[.int .i64 0, .int .i64 0, .agg #[.int .i64 (F.line k), .int .i64 (F.col k), .int .i64 15]]) (by simp [results, Tryd.results10, go_sem, p0, p1, p2]) rfl ?_
            rw [HR2.out]
            exact ⟨rfl, (((below_of_inv HBEL2.out).setCell (by simp) _).setCell (by simp) _).setCell (by simp) _⟩
        · have hs : stepR rest a o (F.kind k) k = some ((5, -1) :: (a, o) :: rest) := by rw [hkk_]; rfl
          have HN : Hid (endRun F n i (k + 1) ((5, -1) :: (a, o) :: rest) = R) := (endRun_on F n i k a o rest (5, -1) ((a, o) :: rest) hlt hs).symm.trans HRUN.out
          clear hs hkk_
          go_wp2_with (first | (go_at_call 13; refine hkk.mono ?_; rintro e wk ⟨rfl, hbk⟩; obtain ⟨hrk, hatk, hbel⟩ := HK.out wk hbk; obtain ⟨_, _, _, _, e8', e9', _, _, _, hl8k, hl9k, _, _, ca, co, cf, clo, holds8, holds9⟩ := hrk.parts; cases e8'; cases e9'; have hck2 := hatk.cell; have HRK := Lib.hid hrk; have HBEL := Lib.hid hbel; have HO8 := Lib.hid holds8; have HO9 := Lib.hid holds9; have he := refErrLine 15 hatk; obtain ⟨f0, f1, f2, z0, z1, z2⟩ := resAt hbel; clear hrk hbel holds8 holds9) | (at_builtin; have o8 := HRK.out.own8; rw [hlr] at o8; refine wpList_append_own_at _ rfl (.tmp 69) (.tmp 71) 54 rfl (w.heap.size + 1) 3 i0 (.int .i64 0) 1 8 Tryd.underlying54 hi0 hz0 hz1 hz2 rfl (by decide) _ _ _ rfl (o8.alloc _) ⟨wk.heap.size, 0, none⟩ 1 1 [.int .i64 5] rfl rfl (cell_one_new wk _ _) (by intro u hu; simp at hu; subst hu; rfl) (by unfold maxLen; omega) (by omega) (by have := HBEL.out.size; simp at this; simp; omega) ?_; intro v8' w2 hown8 hgr8 _ hat8; have HG8 := Lib.hid hgr8; have HW8 := Lib.hid hown8; have HT8 := Lib.hid hat8; clear hgr8 hown8 hat8 o8) | (at_builtin; have o9 := HRK.out.own9; rw [hlr] at o9; have o9' := (o9.alloc (.cells #[.int .i64 5] 3)).kept HG8.out (.inr (fun e => HRK.out.ne e.symm)); refine wpList_append_own_at _ rfl (.tmp 73) (.tmp 74) 54 rfl (w.heap.size + 1) 3 i0 (.int .i64 0) 1 8 Tryd.underlying54 hi0 hz0 hz1 hz2 rfl (by decide) _ _ _ rfl (o9'.alloc _) ⟨w2.heap.size, 0, none⟩ 1 1 [.int .i64 (-1)] rfl rfl (cell_one_new w2 _ _) (by intro u hu; simp at hu; subst hu; rfl) (by unfold maxLen; omega) (by omega) (by have := HBEL.out.size; have := HG8.out.size; simp at *; omega) ?_; intro v9' w3 hown9 hgr9 _ hat9; have RR := Lib.hid (Rows2.push HRK.out (by simp) (by rw [hlr]; exact HW8.out) HG8.out HT8.out (by rw [hlr]; exact hown9) hgr9 hat9); have HG9 := Lib.hid hgr9; clear hgr9 hown9 hat9 o9 o9'))
          go_roundw
          case rel =>
            refine ⟨k + 1, by go_num, by omega, by omega, 5, -1, (a, o) :: rest, HN.out, by simpa using RR.out, by simp; omega, ?_⟩
            have h1 := HBEL.out.size
            simp at h1
            have h2 := HG8.out.size
            simp at h2
            refine Below.grown (Below.alloc (Below.grown (HBEL.out.alloc h1 _) HG8.out (by simp; omega) (fun x hx => ((HRK.out.own8).lt x hx).1)) (by omega) _) HG9.out (by simp; omega) (fun x hx => ((HRK.out.own9).lt x hx).1)
          case measure => simp [intOf]; omega
        · by_cases hao : a = 5 ∧ o < 0
          · have hs : stepR rest a o (F.kind k) k = some ((a, (k : Int)) :: rest) := by rw [hkk_]; simp [stepR, hao]
            have HN : Hid (endRun F n i (k + 1) ((a, (k : Int)) :: rest) = R) := (endRun_on F n i k a o rest (a, (k : Int)) rest hlt hs).symm.trans HRUN.out
            have ha5 : (a != 5) = false := by simp [hao.1]
            have ho0 : ¬ 0 ≤ o := by omega
            clear hs hkk_ hao
            go_wp2_with (go_at_call 13; refine hkk.mono ?_; rintro e wk ⟨rfl, hbk⟩; obtain ⟨hrk, hatk, hbel⟩ := HK.out wk hbk; obtain ⟨_, _, _, _, e8', e9', _, _, _, hl8k, hl9k, _, _, ca, co, cf, clo, holds8, holds9⟩ := hrk.parts; cases e8'; cases e9'; have hck2 := hatk.cell; have HRK := Lib.hid hrk; have HBEL := Lib.hid hbel; have HO8 := Lib.hid holds8; have HO9 := Lib.hid holds9; have he := refErrLine 15 hatk; obtain ⟨f0, f1, f2, z0, z1, z2⟩ := resAt hbel; clear hrk hbel holds8 holds9)
            go_roundw
            case rel => exact ⟨k + 1, by go_num, by omega, by omega, a, (k : Int), rest, HN.out, HRK.out.turn, by omega, HBEL.out.setCell hbb9 _⟩
            case measure => simp [intOf]; omega
          · have hR : R = .bad (F.line k) (F.col k) := HRUN.out.symm.trans (endRun_bad F n i k a o rest hlt (by rw [hkk_]; exact if_neg hao))
            clear hkk_
            by_cases ha : a = 5
            · have ha5 : (a != 5) = false := by simp [ha]
              have ho0 : 0 ≤ o := by omega
              clear ha hao
              have HR2 := Lib.hid hR
              clear hR
              go_wp2_with (first | (go_at_call 13; refine hkk.mono ?_; rintro e wk ⟨rfl, hbk⟩; obtain ⟨hrk, hatk, hbel⟩ := HK.out wk hbk; obtain ⟨_, _, _, _, e8', e9', _, _, _, hl8k, hl9k, _, _, ca, co, cf, clo, holds8, holds9⟩ := hrk.parts; cases e8'; cases e9'; have hck2 := hatk.cell; have HRK := Lib.hid hrk; have HBEL := Lib.hid hbel; have HO8 := Lib.hid holds8; have HO9 := Lib.hid holds9; have he := refErrLine 15 hatk; obtain ⟨f0, f1, f2, z0, z1, z2⟩ := resAt hbel; clear hrk hbel holds8 holds9) | (go_at_call 20; refine he.mono ?_; rintro e w2 ⟨rfl, hb2⟩; have hbel2 := HAT.out wk w2 HBEL.out hb2; obtain ⟨p0, p1, p2, q0, q1, q2⟩ := resAt hbel2; have HBEL2 := Lib.hid hbel2; clear hbel2))
              refine bodyPost_ret (v := .tuple #[.int .i64 0, .int .i64 0, .agg #[.int .i64 (F.line k), .int .i64 (F.col k), .int .i64 15]]) (by simp [results, Tryd.results10, go_sem, p0, p1, p2]) rfl ?_
              rw [HR2.out]
              exact ⟨rfl, (((below_of_inv HBEL2.out).setCell (by simp) _).setCell (by simp) _).setCell (by simp) _⟩
            · have ha5 : (a != 5) = true := by simpa using ha
              clear ha hao
              have HR2 := Lib.hid hR
              clear hR
              go_wp2_with (first | (go_at_call 13; refine hkk.mono ?_; rintro e wk ⟨rfl, hbk⟩; obtain ⟨hrk, hatk, hbel⟩ := HK.out wk hbk; obtain ⟨_, _, _, _, e8', e9', _, _, _, hl8k, hl9k, _, _, ca, co, cf, clo, holds8, holds9⟩ := hrk.parts; cases e8'; cases e9'; have hck2 := hatk.cell; have HRK := Lib.hid hrk; have HBEL := Lib.hid hbel; have HO8 := Lib.hid holds8; have HO9 := Lib.hid holds9; have he := refErrLine 15 hatk; obtain ⟨f0, f1, f2, z0, z1, z2⟩ := resAt hbel; clear hrk hbel holds8 holds9) | (go_at_call 20; refine he.mono ?_; rintro e w2 ⟨rfl, hb2⟩; have hbel2 := HAT.out wk w2 HBEL.out hb2; obtain ⟨p0, p1, p2, q0, q1, q2⟩ := resAt hbel2; have HBEL2 := Lib.hid hbel2; clear hbel2))
              refine bodyPost_ret (v := .tuple #[.int .i64 0, .int .i64 0, .agg #[.int .i64 (F.line k), .int .i64 (F.col k), .int .i64 15]]) (by simp [results, Tryd.results10, go_sem, p0, p1, p2]) rfl ?_
              rw [HR2.out]
              exact ⟨rfl, (((below_of_inv HBEL2.out).setCell (by simp) _).setCell (by simp) _).setCell (by simp) _⟩
        · by_cases ha : a = 5
          · have ha5 : (a != 5) = false := by simp [ha]
            obtain rfl | ⟨x, r, hre⟩ : rest = [] ∨ ∃ x r, rest = x :: r := by cases rest with | nil => exact .inl rfl | cons x r => exact .inr ⟨x, r, rfl⟩
            case inl =>
              have hR : R = .ok k (lastOther a o []) := HRUN.out.symm.trans (endRun_ok F n i k a o [] hlt (by rw [hkk_]; simp [stepR, ha]))
              have HR2 := Lib.hid hR
              clear hR hkk_ ha
              go_wp2_with (go_at_call 13; refine hkk.mono ?_; rintro e wk ⟨rfl, hbk⟩; obtain ⟨hrk, hatk, hbel⟩ := HK.out wk hbk; obtain ⟨_, _, _, _, e8', e9', _, _, _, hl8k, hl9k, _, _, ca, co, cf, clo, holds8, holds9⟩ := hrk.parts; cases e8'; cases e9'; simp only [List.length_nil] at ca co cf; have hck2 := hatk.cell; have HRK := Lib.hid hrk; have HBEL := Lib.hid hbel; have HO8 := Lib.hid holds8; have HO9 := Lib.hid holds9; have he := refErrLine 15 hatk; obtain ⟨f0, f1, f2, z0, z1, z2⟩ := resAt hbel; clear hrk hbel holds8 holds9)
              go_region
              all_goals (try go_wp2)
              all_goals
                refine bodyPost_ret (v := .tuple #[.int .i64 k, .int .i64 (lastOther a o []), .agg #[.int .i64 0, .int .i64 0, .int .i64 0]]) (by simp [results, Tryd.results10, go_sem, f0, f1, f2, lastOther]) rfl ?_
                rw [HR2.out]
                exact ⟨rfl, ((((below_of_inv HBEL.out).setCell (by simp) _).setCell (by simp) _).setCell (by simp) _).drew⟩
            case inr =>
              have hs : stepR rest a o (F.kind k) k = some (x :: r) := by rw [hkk_, hre]; simp [stepR, ha]
              have HN : Hid (endRun F n i (k + 1) (x :: r) = R) := (endRun_on F n i k a o rest x r hlt hs).symm.trans HRUN.out
              have hrl : rest.length = r.length + 1 := by rw [hre]; rfl
              have hn1 : (((rest.length : Int) + 1) == 1) = false := by simp; omega
              have hlr2 : rest.reverse.length = rest.length := by simp
              have HRE := Lib.hid hre
              clear hre hrl
              clear hs hkk_ ha
              go_wp2_with (first | (go_at_call 13; refine hkk.mono ?_; rintro e wk ⟨rfl, hbk⟩; obtain ⟨hrk, hatk, hbel⟩ := HK.out wk hbk; obtain ⟨_, _, _, _, e8', e9', _, _, _, hl8k, hl9k, _, _, ca, co, cf, clo, holds8, holds9⟩ := hrk.parts; cases e8'; cases e9'; have hck2 := hatk.cell; have HRK := Lib.hid hrk; have HBEL := Lib.hid hbel; have HO8 := Lib.hid holds8; have HO9 := Lib.hid holds9; have he := refErrLine 15 hatk; obtain ⟨f0, f1, f2, z0, z1, z2⟩ := resAt hbel; clear hrk hbel holds8 holds9) | (at_builtin; refine wpList_append_own_at _ rfl (.tmp 150) (.tmp 154) 54 rfl (w.heap.size + 1) 3 i0 (.int .i64 0) 1 8 Tryd.underlying54 hi0 hz0 hz1 hz2 rfl (by decide) _ _ _ rfl (World.ownsRow_made wk #[] 0 (by have := HBEL.out.size; simpa using this) (by decide) rfl) ⟨g8, 0, none⟩ rest.length _ (k1 rest.reverse) rfl (by rw [k1_len]; simp) (fun j u hu => (World.cell?_alloc_lt _ _ _ (by rw [show ((⟨g8, 0, none⟩ : Addr).add j).block = g8 from by unfold Addr.add; split <;> rfl]; exact hl8k)).trans (HO8.out j u hu)) (k1_one _) (by unfold maxLen; omega) (by omega) (by have := HBEL.out.size; simp at this; simp; omega) ?_; intro v8' w2 hown8 hgr8 _ hat8; simp only [Nat.zero_add, List.nil_append] at hown8; have HG8 := Lib.hid hgr8; have HW8 := Lib.hid hown8; clear hgr8 hown8 hat8) | (at_builtin; refine wpList_append_own_at _ rfl (.tmp 156) (.tmp 160) 54 rfl (w.heap.size + 1) 3 i0 (.int .i64 0) 1 8 Tryd.underlying54 hi0 hz0 hz1 hz2 rfl (by decide) _ _ _ rfl (World.ownsRow_made w2 #[] 0 (by have h1 := HBEL.out.size; simp at h1; have h2 := HG8.out.size; simp at h2; omega) (by decide) rfl) ⟨g9, 0, none⟩ rest.length _ (k2 rest.reverse) rfl (by rw [k2_len]; simp) (fun j u hu => pop_cell hl9k HG8.out (HO9.out j u hu)) (k2_one _) (by unfold maxLen; omega) (by omega) (by have h1 := HBEL.out.size; simp at h1; have h2 := HG8.out.size; simp at h2; simp; omega) ?_; intro v9' w3 hown9 hgr9 _ hat9; simp only [Nat.zero_add, List.nil_append] at hown9; have RR := Lib.hid (Rows2.pop (st := rest.reverse) (by rw [HRE.out]; simp) (by rw [hlr2]; exact HW8.out) (by rw [hlr2]; exact hown9) hgr9 hat9); have HG9 := Lib.hid hgr9; clear hgr9 hown9 hat9))
              go_roundw
              case rel =>
                refine ⟨k + 1, by go_num, by omega, by omega, x.1, x.2, r, HN.out, HRE.out ▸ RR.out, by have := congrArg List.length HRE.out; simp at this; omega, ?_⟩
                have h1 := HBEL.out.size
                simp at h1
                have h2 := HG8.out.size
                simp at h2
                exact Below.grown (Below.alloc (Below.grown (HBEL.out.alloc h1 _) HG8.out (by simp; omega) (fun x hx => by cases hx; exact h1)) (by omega) _) HG9.out (by simp; omega) (fun x hx => by cases hx; simp; omega)
              case measure => simp [intOf]; omega
          · have hR : R = .bad (F.line k) (F.col k) := HRUN.out.symm.trans (endRun_bad F n i k a o rest hlt (by rw [hkk_]; simp [stepR, ha]))
            have ha5 : (a != 5) = true := by simpa using ha
            clear hkk_ ha
            have HR2 := Lib.hid hR
            clear hR
            go_wp2_with (first | (go_at_call 13; refine hkk.mono ?_; rintro e wk ⟨rfl, hbk⟩; obtain ⟨hrk, hatk, hbel⟩ := HK.out wk hbk; obtain ⟨_, _, _, _, e8', e9', _, _, _, hl8k, hl9k, _, _, ca, co, cf, clo, holds8, holds9⟩ := hrk.parts; cases e8'; cases e9'; have hck2 := hatk.cell; have HRK := Lib.hid hrk; have HBEL := Lib.hid hbel; have HO8 := Lib.hid holds8; have HO9 := Lib.hid holds9; have he := refErrLine 15 hatk; obtain ⟨f0, f1, f2, z0, z1, z2⟩ := resAt hbel; clear hrk hbel holds8 holds9) | (go_at_call 20; refine he.mono ?_; rintro e w2 ⟨rfl, hb2⟩; have hbel2 := HAT.out wk w2 HBEL.out hb2; obtain ⟨p0, p1, p2, q0, q1, q2⟩ := resAt hbel2; have HBEL2 := Lib.hid hbel2; clear hbel2))
            refine bodyPost_ret (v := .tuple #[.int .i64 0, .int .i64 0, .agg #[.int .i64 (F.line k), .int .i64 (F.col k), .int .i64 15]]) (by simp [results, Tryd.results10, go_sem, p0, p1, p2]) rfl ?_
            rw [HR2.out]
            exact ⟨rfl, (((below_of_inv HBEL2.out).setCell (by simp) _).setCell (by simp) _).setCell (by simp) _⟩
      · have hR : R = .bad (F.line i) (F.col i) := HRUN.out.symm.trans (endRun_end F n i k _ hlt)
        have HR2 := Lib.hid hR
        have hli := hFr i hi
        have hci := hli.cell
        have he := refErrLine 15 hli
        have hlt2 : ¬ (k : Int) < n := by omega
        have HBEL := Lib.hid hbel
        clear hrun hbel hFr hrows hR
        go_wp2_with (go_at_call 20; refine he.mono ?_; rintro e w2 ⟨rfl, hb2⟩; have hbel2 := HBEL.out.trans (hb2.mono (by have := HBEL.out.size; simpa using this)); obtain ⟨p0, p1, p2, q0, q1, q2⟩ := resAt hbel2; have HBEL2 := Lib.hid hbel2; clear hbel2)
        refine bodyPost_ret (v := .tuple #[.int .i64 0, .int .i64 0, .agg #[.int .i64 (F.line i), .int .i64 (F.col i), .int .i64 15]]) (by simp [results, Tryd.results10, go_sem, p0, p1, p2]) rfl ?_
        rw [HR2.out]
        exact ⟨rfl, (((below_of_inv HBEL2.out).setCell (by simp) _).setCell (by simp) _).setCell (by simp) _⟩
end Go.Proofs.YtccomiigdpfbpaaDoor
