/-
  The contract of the reference's Labels. Conditions: the items', the words' and the symbols' cells are there; few of them.
-/
import Derived.Test.YtbhfblogjlpnlabDoorLabels
import Derived.Test.YtbhfblogjlpnlabDoorRefPlace
namespace Go.Proofs.YtbhfblogjlpnlabDoor
open Go.RowKit

/-- What the reference's Labels answers. -/
def RefLabOut (p : Lb) (w0 : World) (e : Ending) (w' : World) : Prop :=
  (((∀ k, k < p.n → p.dup k = false) ∧ ∃ v, e = .returned (.tuple #[v, .agg #[.int .i64 0, .int .i64 0, .int .i64 0]]) ∧ w'.ownsRow w0.heap.size 133 3 v (p.labs p.n).length (symCells (p.labs p.n))) ∨
   (∃ k, k < p.n ∧ (∀ j, j < k → p.dup j = false) ∧ p.dup k = true ∧ e = .returned (.tuple #[.slice none 0 0, .agg #[.int .i64 (p.F k).L, .int .i64 (p.F k).C, .int .i64 10]]))) ∧ Below w0.heap.size w0 w'

theorem Tryd.infoRSym : (Tryd.prog.info? 133).map (fun i => (i.zero, i.size, i.bytes)) = some (some (.agg #[.string ByteArray.empty, .int .u32 0, .int .i64 0]), 3, 32) := by kernel_rfl

theorem str_eq (s t : ByteArray) : (s.toList == t.toList) = decide (s.data.toList = t.data.toList) := by
  rw [ByteArray.toList_eq, ByteArray.toList_eq]
  rw [Bool.eq_iff_iff]
  simp only [beq_iff_eq, decide_eq_true_eq]

/-- What holds at the outer loop's head. -/
structure RlInv (p : Lb) (w0 : World) (k : Nat) (v : Value) (wr : World) : Prop where
  row : wr.ownsRow (w0.heap.size + 1) 133 3 v (p.labs k).length (symCells (p.labs k))
  good : ∀ j, j < k → p.dup j = false
  below : Below (w0.heap.size + 1) (w0.alloc zerosF) wr
theorem RlInv.skip {p : Lb} {w0 : World} {k : Nat} {v : Value} {wr : World} (h : RlInv p w0 k v wr) (hK : (p.F k).K ≠ 1) (o : Obj) : RlInv p w0 (k + 1) v (wr.alloc o) := by
  have e : p.labs (k + 1) = p.labs k := by rw [Lb.labs, if_neg hK]
  refine ⟨by rw [e]; exact h.row.alloc o, fun j hj => ?_, h.below.alloc (by have := h.below.size; simpa using this) o⟩
  rcases Nat.lt_or_ge j k with h1 | h1
  · exact h.good j h1
  · obtain rfl : j = k := by omega
    simp [Lb.dup, hK]
theorem RlInv.make {p : Lb} {w0 : World} {k : Nat} {v v' : Value} {wr w2 w3 : World} {o2 o3 : Obj} (h : RlInv p w0 k v wr) (hK : (p.F k).K = 1) (hd : p.dup k = false)
    (hb : Below wr.heap.size wr w2)
    (hr : w3.ownsRow (w0.heap.size + 1) 133 3 v' ((p.labs k).length + 1) (symCells (p.labs k) ++ (p.lab k).cells)) (hg3 : ((w2.alloc o2).alloc o3).grownBy w3 v.ownBlock) : RlInv p w0 (k + 1) v' w3 := by
  have e : p.labs (k + 1) = p.labs k ++ [p.lab k] := by rw [Lb.labs, if_pos hK]
  have hs := h.below.size
  have hs2 := hb.size
  simp at hs
  refine ⟨?_, fun j hj => ?_, ?_⟩
  · rw [e, symCells_snoc, List.length_append]; exact hr
  · rcases Nat.lt_or_ge j k with h1 | h1
    · exact h.good j h1
    · obtain rfl : j = k := by omega
      exact hd
  · have b1 := h.below.trans (hb.mono hs)
    exact ((b1.alloc (by omega) o2).alloc (by simp; omega) o3).grown hg3 (by simp; omega) (fun x hx => (h.row.lt x hx).1)

/-- A row of symbols: its cells. -/
theorem row_cells3 {w : World} {b0 : Nat} {T : TypeId} {v : Value} {l : List Sy} (h : w.ownsRow b0 T 3 v l.length (symCells l)) : ∃ A c, v = .slice A l.length c ∧ ∀ j (hj : j < l.length), ∃ g, A = some ⟨g, 0, none⟩ ∧ w.cell? ⟨g, j * 3, none⟩ = some (.string l[j].nm) := by
  rcases h.2 with ⟨rfl, hx⟩ | ⟨g, cap, cur, rfl, r⟩
  · exact ⟨none, 0, by rw [hx], fun j hj => absurd hj (by omega)⟩
  · refine ⟨_, _, rfl, fun j hj => ⟨g, rfl, ?_⟩⟩
    have := h.cellAt (j * 3 + 0) (by omega)
    rw [Nat.add_zero] at this
    rw [this]
    have := symCells_at l j 0 hj (by omega)
    rw [Nat.add_zero] at this
    rw [this]
    rfl

/-- An item's box, in every world behind draws. -/
theorem box_cells {wo wr : World} {t : Itm} (h : Drawn (wo.alloc (.cells t.cs 89)) wr) :
    wr.cell? ⟨wo.heap.size, 0, none⟩ = some (.int .i64 t.K) ∧ wr.cell? ⟨wo.heap.size, 1, none⟩ = some (.int .i64 t.L) ∧ wr.cell? ⟨wo.heap.size, 2, none⟩ = some (.int .i64 t.C) ∧ wr.cell? ⟨wo.heap.size, 3, none⟩ = some (.string t.nm) ∧
    wr.cell? ⟨wo.heap.size, 4, none⟩ = some (.int .i64 t.i0) ∧ wr.cell? ⟨wo.heap.size, 5, none⟩ = some (.int .i64 t.i1) ∧ wr.cell? ⟨wo.heap.size, 6, none⟩ = some (.int .i64 t.i2) ∧ wr.cell? ⟨wo.heap.size, 7, none⟩ = some (.int .i64 t.i3) ∧ wr.cell? ⟨wo.heap.size, 8, none⟩ = some (.int .i32 t.i4) ∧
    wr.cell? ⟨wo.heap.size, 9, none⟩ = some (.string t.sh) ∧ wr.cell? ⟨wo.heap.size, 10, none⟩ = some (.int .i64 t.sz) ∧ wr.cell? ⟨wo.heap.size, 11, none⟩ = some (.slice t.NA t.nl t.nc) ∧ wr.cell? ⟨wo.heap.size, 12, none⟩ = some (.int .u32 t.num) ∧ wr.cell? ⟨wo.heap.size, 13, none⟩ = some (.bool t.gr) ∧ wr.cell? ⟨wo.heap.size, 14, none⟩ = some (.bool t.rv) := by
  refine ⟨h.old ?_, h.old ?_, h.old ?_, h.old ?_, h.old ?_, h.old ?_, h.old ?_, h.old ?_, h.old ?_, h.old ?_, h.old ?_, h.old ?_, h.old ?_, h.old ?_, h.old ?_⟩ <;> simp

set_option maxRecDepth 100000 in
set_option maxHeartbeats 8000000 in
theorem refLabels_any (p : Lb) (Y : Nat → Sy) (m : Nat) (hT : p.T = (List.range m).map fun j => (Y j).nm.data.toList) (hn : p.n ≤ 400) (hm : m ≤ 400)
    (A : Option Addr) (cap : Nat) (Aa : Option Addr) (capa : Nat) (As : Option Addr) (caps : Nat) (w : World) (hF : ItsIn w.heap.size p.F w A p.n) (hV : WdsB w.heap.size p.V w Aa p.na) (hY : SymsIn w.heap.size Y w As m) :
    Calls Tryd.prog 38 #[.slice A p.n cap, .slice Aa p.na capa, .slice As m caps] w (RefLabOut p w) := by
  obtain ⟨i0, hi0, hz0, hz1, hz2⟩ := info_parts Tryd.infoRSym
  have HF := Lib.hid hF
  have HV := Lib.hid hV
  have HY := Lib.hid hY
  have HT := Lib.hid hT
  have hst : RlInv p w 0 (.slice none 0 0) (w.alloc zerosF) := ⟨World.ownsRow_nil _ _ _ _, fun j hj => absurd hj (by omega), Below.refl _ _⟩
  have HST := Lib.hid hst
  clear hF hV hY hT hst
  go_enter Tryd.func38, Tryd.ntmps38
  go_wp2_with fail
  go_loopg [8, 9] p.n (fun g v i wr => ∃ k : Nat, k + g = p.n ∧ i = .int .i64 k ∧ RlInv p w k v wr)
  case atStart => exact ⟨0, Nat.zero_add _, rfl, HST.out⟩
  case round =>
    obtain ⟨k, hk, rfl, hI⟩ := hrel
    have hk' : k ≤ p.n := by omega
    have HK := Lib.hid hk
    have HI := Lib.hid hI
    have hbw : Below w.heap.size w wr := below_of_res hI.below
    have HBW := Lib.hid hbw
    have hbs := hI.below.size
    simp at hbs
    have hlen := p.labs_len k
    clear hk hbw
    by_cases hlt : k < p.n
    · obtain ⟨B, O, hA, hB, hit⟩ := (HF.out.below HBW.out) k hlt
      subst hA
      obtain ⟨c0, c1, c2, c3, c4, c5, c6, c7, c8, c9, c10, c11, c12, c13, c14⟩ := hit
      obtain ⟨Av, cv, ev, hcv⟩ := row_cells3 hI.row
      subst ev
      have HCV := Lib.hid hcv
      have HAT : Hid (∀ W, Below wr.heap.size wr W → ResAt w W ∧ Below w.heap.size w W) := Lib.hid (fun W h => ⟨resAt (hI.below.trans (h.mono (by omega))), below_of_res (hI.below.trans (h.mono (by omega)))⟩)
      have HAL : Hid (Below wr.heap.size wr (wr.alloc (.cells (p.F k).cs 89))) := Lib.hid ((Below.refl _ _).alloc (Nat.le_refl _) _)
      clear hI hcv
      by_cases hK : (p.F k).K = 1
      · have hK1 : ((p.F k).K != 1) = false := by simp [hK]
        have HKK := Lib.hid hK
        clear hK
        go_wp2_with fail
        obtain ⟨wo, rfl⟩ : ∃ wo : World, wo = wr := ⟨_, rfl⟩
        obtain ⟨g0, rfl⟩ : ∃ g0 : Nat, g0 = gk := ⟨_, rfl⟩
        go_loopg [11] m (fun g i wr2 => ∃ j : Nat, j + g = m ∧ i = .int .i64 j ∧ Drawn (wo.alloc (.cells (p.F k).cs 89)) wr2 ∧ Hid (∀ x, x < j → (Y x).nm.data.toList ≠ (p.F k).nm.data.toList))
        case atStart => exact ⟨0, Nat.zero_add _, rfl, Drawn.start _, Lib.hid (fun x hx => absurd hx (by omega))⟩
        case round =>
          obtain ⟨j, hj, rfl, hd, hno⟩ := hrel
          have hj' : j ≤ m := by omega
          have HJ := Lib.hid hj
          have e3 := hd.old (show (wo.alloc (.cells (p.F k).cs 89)).cell? ⟨wo.heap.size, 3, none⟩ = some (.string (p.F k).nm) by simp)
          have HD := Lib.hid hd
          have HDB := Lib.hid (HAL.out.trans (hd.below.mono (by simp)))
          clear hj hd
          by_cases hltj : j < m
          · obtain ⟨B2, O2, hA2, hB2, d0, d1, d2⟩ := (HY.out.below ((HAT.out _ HDB.out).2) (Nat.le_refl _)) j hltj
            subst hA2
            clear d1 d2
            by_cases heq : (Y j).nm.data.toList = (p.F k).nm.data.toList
            · obtain ⟨e0, e1, e2, -, e4, e5, e6, e7, e8, e9, e10, e11, e12, e13, e14⟩ := box_cells HD.out
              have hb1 : ((Y j).nm.toList == (p.F k).nm.toList) = true := by rw [str_eq]; exact decide_eq_true heq
              have hdup : p.dup k = true := by
                unfold Lb.dup
                rw [HKK.out]
                simp only [decide_true, Bool.true_and, decide_eq_true_eq]
                rw [HT.out]
                exact List.mem_append.2 (.inl (List.mem_map.2 ⟨j, List.mem_range.2 hltj, heq⟩))
              have HDU := Lib.hid hdup
              clear heq hdup
              go_wp2_with fail
              go_quiet (fail)
              go_wp2_with (go_at_call 57; refine (refAt_any (p.F k) 10 _).mono ?_; rintro e w2 ⟨rfl, hb2⟩; obtain ⟨⟨f0, f1, f2, z0, z1, z2⟩, hbw⟩ := HAT.out w2 ((hdrawn HDB.out).trans (hb2.mono (HDB.out.size))); have HBW := Lib.hid hbw; clear hbw hb2)
              refine bodyPost_ret (v := .tuple #[.slice none 0 0, .agg #[.int .i64 (p.F k).L, .int .i64 (p.F k).C, .int .i64 10]]) (by simp [results, Tryd.results38, go_sem, f0, f1, f2]) rfl ?_
              exact ⟨.inr ⟨k, hlt, HI.out.good, HDU.out, rfl⟩, ((HBW.out.setCell (by simp) _).setCell (by simp) _).setCell (by simp) _⟩
            · have hb1 : ((Y j).nm.toList == (p.F k).nm.toList) = false := by rw [str_eq]; exact decide_eq_false heq
              have HNE := Lib.hid heq
              clear heq
              go_wp2_with fail
              go_quiet (fail)
              go_wp2_with fail
              go_roundg (gk - 1)
              case measure => have := HJ.out; omega
              case rel =>
                refine ⟨j + 1, by have := HJ.out; omega, by go_num, HD.out.more _, Lib.hid fun x hx => ?_⟩
                rcases Nat.lt_or_ge x j with h1 | h1
                · exact hno.out x h1
                · obtain rfl : x = j := by omega
                  exact HNE.out
          · obtain rfl : j = m := by omega
            have HNO := Lib.hid hno.out
            clear hno
            go_wp2_with fail
            obtain ⟨wp, rfl⟩ : ∃ wp : World, wp = wr := ⟨_, rfl⟩
            go_loopg [12] (p.labs k).length (fun g i wr2 => ∃ l : Nat, l + g = (p.labs k).length ∧ i = .int .i64 l ∧ Drawn (wo.alloc (.cells (p.F k).cs 89)) wr2 ∧ Hid (∀ x (hx : x < (p.labs k).length), x < l → (p.labs k)[x].nm.data.toList ≠ (p.F k).nm.data.toList))
            case atStart => exact ⟨0, Nat.zero_add _, rfl, HD.out, Lib.hid (fun x _ hx => absurd hx (by omega))⟩
            case round =>
              clear e3
              obtain ⟨l, hl, rfl, hd, hno⟩ := hrel
              have hl' : l ≤ (p.labs k).length := by omega
              have HL := Lib.hid hl
              have e3 := hd.old (show (wo.alloc (.cells (p.F k).cs 89)).cell? ⟨wo.heap.size, 3, none⟩ = some (.string (p.F k).nm) by simp)
              have HD2 := Lib.hid hd
              have HDB2 := Lib.hid (HAL.out.trans (hd.below.mono (by simp)))
              clear hl hd
              by_cases hltl : l < (p.labs k).length
              · obtain ⟨g, hAv, hcl⟩ := HCV.out l hltl
                subst hAv
                have d0 := (HDB2.out.cell (p := ⟨g, l * 3, none⟩) (World.block_lt_of_cell? _ _ hcl)).trans hcl
                clear hcl
                by_cases heq : (p.labs k)[l].nm.data.toList = (p.F k).nm.data.toList
                · obtain ⟨e0, e1, e2, -, e4, e5, e6, e7, e8, e9, e10, e11, e12, e13, e14⟩ := box_cells HD2.out
                  have hb1 : ((p.labs k)[l].nm.toList == (p.F k).nm.toList) = true := by rw [str_eq]; exact decide_eq_true heq
                  have hdup : p.dup k = true := by
                    unfold Lb.dup
                    rw [HKK.out]
                    simp only [decide_true, Bool.true_and, decide_eq_true_eq]
                    exact List.mem_append.2 (.inr (List.mem_map.2 ⟨_, List.getElem_mem hltl, heq⟩))
                  have HDU := Lib.hid hdup
                  generalize (p.labs k)[l].nm = nml at *
                  clear heq hdup
                  go_wp2_with fail
                  go_quiet (fail)
                  go_wp2_with (go_at_call 57; refine (refAt_any (p.F k) 10 _).mono ?_; rintro e w2 ⟨rfl, hb2⟩; obtain ⟨⟨f0, f1, f2, z0, z1, z2⟩, hbw⟩ := HAT.out w2 ((hdrawn HDB2.out).trans (hb2.mono (HDB2.out.size))); have HBW := Lib.hid hbw; clear hbw hb2)
                  refine bodyPost_ret (v := .tuple #[.slice none 0 0, .agg #[.int .i64 (p.F k).L, .int .i64 (p.F k).C, .int .i64 10]]) (by simp [results, Tryd.results38, go_sem, f0, f1, f2]) rfl ?_
                  exact ⟨.inr ⟨k, hlt, HI.out.good, HDU.out, rfl⟩, ((HBW.out.setCell (by simp) _).setCell (by simp) _).setCell (by simp) _⟩
                · have hb1 : ((p.labs k)[l].nm.toList == (p.F k).nm.toList) = false := by rw [str_eq]; exact decide_eq_false heq
                  have HNM2 := Lib.hid heq
                  clear heq
                  obtain ⟨nml, hnml⟩ : ∃ nml, (p.labs k)[l].nm = nml := ⟨_, rfl⟩
                  rw [hnml] at d0 hb1
                  clear hnml
                  go_wp2_with fail
                  go_quiet (fail)
                  go_wp2_with fail
                  go_roundg (gk - 1)
                  case measure => have := HL.out; omega
                  case rel =>
                    refine ⟨l + 1, by have := HL.out; omega, by go_num, HD2.out.more _, Lib.hid fun x hx hxl => ?_⟩
                    rcases Nat.lt_or_ge x l with h1 | h1
                    · exact hno.out x hx h1
                    · obtain rfl : x = l := by omega
                      exact HNM2.out
              · obtain rfl : l = (p.labs k).length := by omega
                have hdup : p.dup k = false := by
                  unfold Lb.dup
                  rw [HKK.out]
                  simp only [decide_true, Bool.true_and, decide_eq_false_iff_not]
                  intro hmem
                  rcases List.mem_append.1 hmem with h | h
                  · rw [HT.out] at h
                    obtain ⟨x, hx, he⟩ := List.mem_map.1 h
                    exact HNO.out x (List.mem_range.1 hx) he
                  · obtain ⟨y, hy, he⟩ := List.mem_map.1 h
                    obtain ⟨x, hx, rfl⟩ := List.getElem_of_mem hy
                    exact hno.out x hx hx he
                have HDU := Lib.hid hdup
                have hsz := HDB2.out.size
                have hlt3 : wo.heap.size < wr.heap.size := World.block_lt_of_cell? _ _ e3
                have HRW := Lib.hid (HI.out.row.kept (grows_of HDB2.out) (by cases (Value.slice Av (p.labs k).length cv).ownBlock <;> simp))
                clear hdup hno
                have hcase : (k < p.na ∧ p.lab k = ⟨(p.F k).nm, p.V k, 1⟩) ∨ (¬ k < p.na ∧ p.lab k = ⟨(p.F k).nm, 0, 1⟩) := by
                  unfold Lb.lab
                  by_cases h : k < p.na
                  · exact .inl ⟨h, by rw [if_pos h]⟩
                  · exact .inr ⟨h, by rw [if_neg h]⟩
                rcases hcase with ⟨hna, hl⟩ | ⟨hna, hl⟩
                · have HLB := Lib.hid hl
                  obtain ⟨Ba, Oa, hAa, hBa, ca⟩ := (HV.out.below ((HAT.out _ HDB2.out).2) (Nat.le_refl _)) k hna
                  subst hAa
                  have hBa2 : Ba < wr.heap.size := World.block_lt_of_cell? _ _ ca
                  clear hl
                  go_wp2_with (at_builtin; refine wpList_append_own_at _ rfl (.tmp 71) (.tmp 73) 77 rfl (w.heap.size + 1) 133 i0 (.agg #[.string ByteArray.empty, .int .u32 0, .int .i64 0]) 3 32 Tryd.underlying77 hi0 hz0 hz1 hz2 rfl (by decide) _ _ _ rfl ((HRW.out.alloc _).alloc _) ⟨wr.heap.size + 1, 0, none⟩ 1 1 [.string (p.F k).nm, .int .u32 (p.V k), .int .i64 1] rfl rfl (cells_new3 _ #[.string (p.F k).nm, .int .u32 (p.V k), .int .i64 1] _ _ (by simp)) (by intro u hu; simp at hu; rcases hu with rfl | rfl | rfl <;> rfl) (by unfold maxLen; omega) (by omega) (by simp; omega) ?_; intro v' w3 hown3 hg3 _ _; have HN := Lib.hid hown3; have HG3 := Lib.hid hg3; clear hown3 hg3)
                  go_roundg (g0 - 1)
                  case measure => have := HK.out; omega
                  case rel => exact ⟨k + 1, by have := HK.out; omega, by go_num, HI.out.make HKK.out HDU.out HDB2.out (by rw [HLB.out]; exact HN.out) HG3.out⟩
                · have HLB := Lib.hid hl
                  have hna2 : ¬ (k : Int) < p.na := by omega
                  clear hl
                  go_wp2_with (at_builtin; refine wpList_append_own_at _ rfl (.tmp 71) (.tmp 73) 77 rfl (w.heap.size + 1) 133 i0 (.agg #[.string ByteArray.empty, .int .u32 0, .int .i64 0]) 3 32 Tryd.underlying77 hi0 hz0 hz1 hz2 rfl (by decide) _ _ _ rfl ((HRW.out.alloc _).alloc _) ⟨wr.heap.size + 1, 0, none⟩ 1 1 [.string (p.F k).nm, .int .u32 (0), .int .i64 1] rfl rfl (cells_new3 _ #[.string (p.F k).nm, .int .u32 (0), .int .i64 1] _ _ (by simp)) (by intro u hu; simp at hu; rcases hu with rfl | rfl | rfl <;> rfl) (by unfold maxLen; omega) (by omega) (by simp; omega) ?_; intro v' w3 hown3 hg3 _ _; have HN := Lib.hid hown3; have HG3 := Lib.hid hg3; clear hown3 hg3)
                  go_roundg (g0 - 1)
                  case measure => have := HK.out; omega
                  case rel => exact ⟨k + 1, by have := HK.out; omega, by go_num, HI.out.make HKK.out HDU.out HDB2.out (by rw [HLB.out]; exact HN.out) HG3.out⟩
      · have hK1 : ((p.F k).K != 1) = true := by simp [hK]
        have HKK := Lib.hid hK
        clear hK
        go_wp2_with fail
        go_roundg (gk - 1)
        case measure => have := HK.out; omega
        case rel => exact ⟨k + 1, by have := HK.out; omega, by go_num, HI.out.skip HKK.out _⟩
    · obtain rfl : k = p.n := by omega
      obtain ⟨Av, cv, ev, hcv⟩ := row_cells3 hI.row
      subst ev
      obtain ⟨f0, f1, f2, z0, z1, z2⟩ := resAt hI.below
      clear hI hcv
      go_wp2_with fail
      refine bodyPost_ret (v := .tuple #[.slice Av (p.labs p.n).length cv, .agg #[.int .i64 0, .int .i64 0, .int .i64 0]]) (by simp [results, Tryd.results38, go_sem, f0, f1, f2]) rfl ?_
      refine ⟨.inl ⟨HI.out.good, _, rfl, own_base' (ownsRow_setCell_below (ownsRow_setCell_below (ownsRow_setCell_below HI.out.row (by simp) _) (by simp) _) (by simp) _) (by omega)⟩, ((HBW.out.setCell (by simp) _).setCell (by simp) _).setCell (by simp) _⟩
end Go.Proofs.YtbhfblogjlpnlabDoor
