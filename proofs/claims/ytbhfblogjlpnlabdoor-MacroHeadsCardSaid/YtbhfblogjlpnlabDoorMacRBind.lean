/-
  The contract of the reference's Bind: as the program's. Conditions: parameters and arguments lie in the memory, at most 100000 of them.
-/
import Derived.Test.YtbhfblogjlpnlabDoorMacBind
import Derived.RegionTactic
import Derived.BigRegion
namespace Go.Proofs.YtbhfblogjlpnlabDoor
open Go.RowKit

/-- Rows that may lie anywhere. -/
def RowsV (w : World) (us : List Value) (pss : List (List Tk6)) : Prop := us.length = pss.length ∧ ∀ (i : Nat) (ps : List Tk6), pss[i]? = some ps → ∃ u, us[i]? = some u ∧ Toks w u ps
theorem RowsV.below {w w' : World} {us : List Value} {pss : List (List Tk6)} (h : RowsV w us pss) (hb : Below w.heap.size w w') : RowsV w' us pss :=
  ⟨h.1, fun i ps hi => by
    obtain ⟨u, hu, ht⟩ := h.2 i ps hi
    exact ⟨u, hu, ht.below hb⟩⟩
theorem RowsV.snoc {w : World} {us : List Value} {pss : List (List Tk6)} {u : Value} {ps : List Tk6} (h : RowsV w us pss) (hu : Toks w u ps) : RowsV w (us ++ [u]) (pss ++ [ps]) := by
  refine ⟨by simp [h.1], fun i qs hi => ?_⟩
  rcases Nat.lt_trichotomy i pss.length with hlt | rfl | hgt
  · rw [List.getElem?_append_left hlt] at hi
    obtain ⟨x, hx, ho⟩ := h.2 i qs hi
    exact ⟨x, by rw [List.getElem?_append_left (by rw [h.1]; exact hlt)]; exact hx, ho⟩
  · simp at hi
    subst hi
    exact ⟨u, by rw [← h.1]; simp, hu⟩
  · rw [List.getElem?_eq_none (by simp; omega)] at hi
    cases hi
theorem tokRows_of_v {w : World} {base n : Nat} {v : Value} {us : List Value} {pss : List (List Tk6)} (h : w.ownsRow base 30 1 v n us) (hn : n = pss.length) (hr : RowsV w us pss) : TokRows w v pss := by
  subst hn
  rcases h.2 with ⟨rfl, h0⟩ | ⟨g, cap, cur, rfl, hg, hh, hc, hm, _, _⟩
  · exact .inl ⟨none, 0, rfl, Nat.zero_le _, List.eq_nil_of_length_eq_zero h0⟩
  · refine .inr ⟨g, 0, cap, rfl, hc, hm, (Array.getElem?_eq_some_iff.1 hh).1, fun i ps hi => ?_⟩
    obtain ⟨u, hu, ho⟩ := hr.2 i ps hi
    have := h.cells (g := g) rfl i u hu
    rw [addr0] at this
    rw [Nat.zero_add]
    exact ⟨u, this, ho⟩

/-- What holds while the reference binds values. -/
structure WInv (w0 wB : World) (ps : List HPar) (ass : List (List Tk6)) (k : Nat) (v : Value) (wr : World) (done : List (List Tk6)) (us : List Value) : Prop where
  len : done.length = k
  val : ∀ (j : Nat) (x : List Tk6), done[j]? = some x → valAt ps ass j = some x
  own : wr.ownsRow wB.heap.size 30 1 v k us
  rows : RowsV w0 us done
  below : Below wB.heap.size wB wr
theorem w_step {w0 wB wr w3 : World} {ps : List HPar} {ass done : List (List Tk6)} {x : List Tk6} {k : Nat} {v v' u : Value} {us : List Value} {o1 : Obj} (h : WInv w0 wB ps ass k v wr done us)
    (hu : Toks w0 u x) (hx : valAt ps ass k = some x) (hown' : w3.ownsRow wB.heap.size 30 1 v' (k + 1) (us ++ [u])) (hgrow : (wr.alloc o1).grownBy w3 v.ownBlock) : WInv w0 wB ps ass (k + 1) v' w3 (done ++ [x]) (us ++ [u]) := by
  have hsz := h.below.size
  refine ⟨by rw [List.length_append, h.len]; rfl, ?_, hown', h.rows.snoc hu, ?_⟩
  · intro j y hj
    rcases Nat.lt_trichotomy j done.length with hlt | rfl | hgt
    · rw [List.getElem?_append_left hlt] at hj
      exact h.val j y hj
    · simp at hj
      subst hj
      rw [h.len]
      exact hx
    · rw [List.getElem?_eq_none (by simp; omega)] at hj
      cases hj
  · refine Below.grown (h.below.alloc hsz o1) hgrow (by simp; omega) ?_
    intro g hg
    exact (h.own.lt g hg).1

set_option maxRecDepth 100000 in
set_option maxHeartbeats 4000000 in
theorem rbind_is (ps : List HPar) (ass : List (List Tk6)) (nm : ByteArray) (vp vl va : Value) (t : Tk6) (w : World) (hp : Pars w vp ps) (ha : TokRows w va ass) (h1 : ps.length ≤ 100000) (hvl : ∃ A n c, vl = .slice A n c) :
    Calls Tryd.prog 28 #[.agg #[.string nm, vp, vl], t.val, va] w fun e w' =>
      ((∃ v vals, e = .returned (.tuple #[v, .agg #[.int .i64 0, .int .i64 0, .int .i64 0]]) ∧ BindOk ps ass vals ∧ TokRows w' v vals) ∨
       (e = .returned (.tuple #[.slice none 0 0, .agg #[.int .i64 t.line, .int .i64 t.col, .int .i64 9]]) ∧ BindBad ps ass)) ∧ Below w.heap.size w w' := by
  obtain ⟨i1, hi1, hz0, hz1, hz2⟩ := info_parts Tryd.infoLine
  obtain ⟨Al, nl, cl, rfl⟩ := hvl
  obtain ⟨Ap, cp, rfl, hpc, hpm, hpcell⟩ := hp.form
  obtain ⟨Aa, ca, rfl, hac, ham, hacell⟩ := ha.form
  have HP := Lib.hid hpcell
  have HA := Lib.hid hacell
  obtain ⟨wB, hwB⟩ : ∃ wB, (((w.alloc (.cells #[.string nm, .slice Ap ps.length cp, .slice Al nl cl] 46)).alloc (.cells #[.int .i64 t.kind, .int .i64 t.line, .int .i64 t.col, .string t.text, .int .u32 t.num, .int .i64 t.spare] 56)).alloc (.cells #[.int .i64 0, .int .i64 0, .int .i64 0] 25)).alloc (.cells #[.int .i64 t.line, .int .i64 t.col, .int .i64 9] 25) = wB := ⟨_, rfl⟩
  have hsB : wB.heap.size = w.heap.size + 1 + 1 + 1 + 1 := by rw [← hwB]; simp
  have hMb : Blk wB w.heap.size 46 #[.string nm, .slice Ap ps.length cp, .slice Al nl cl] := by rw [← hwB]; exact (((Blk.new _ _ _).alloc _).alloc _).alloc _
  have hRb : Blk wB (w.heap.size + 1 + 1) 25 #[.int .i64 0, .int .i64 0, .int .i64 0] := by
    rw [← hwB]
    have := (Blk.new ((w.alloc (.cells #[.string nm, .slice Ap ps.length cp, .slice Al nl cl] 46)).alloc (.cells #[.int .i64 t.kind, .int .i64 t.line, .int .i64 t.col, .string t.text, .int .u32 t.num, .int .i64 t.spare] 56)) 25 #[.int .i64 0, .int .i64 0, .int .i64 0]).alloc (.cells #[.int .i64 t.line, .int .i64 t.col, .int .i64 9] 25)
    simpa using this
  have hFb : Blk wB (w.heap.size + 1 + 1 + 1) 25 #[.int .i64 t.line, .int .i64 t.col, .int .i64 9] := by
    rw [← hwB]
    have := Blk.new (((w.alloc (.cells #[.string nm, .slice Ap ps.length cp, .slice Al nl cl] 46)).alloc (.cells #[.int .i64 t.kind, .int .i64 t.line, .int .i64 t.col, .string t.text, .int .u32 t.num, .int .i64 t.spare] 56)).alloc (.cells #[.int .i64 0, .int .i64 0, .int .i64 0] 25)) 25 #[.int .i64 t.line, .int .i64 t.col, .int .i64 9]
    simpa using this
  have hBb : Below w.heap.size w wB := by rw [← hwB]; exact ((((Below.refl _ _).alloc (Nat.le_refl _) _).alloc (by simp) _).alloc (by simp; omega) _).alloc (by simp; omega) _
  have HWB := Lib.hid hwB
  have HSB := Lib.hid hsB
  have HMB := Lib.hid hMb
  have HRB := Lib.hid hRb
  have HFB := Lib.hid hFb
  have HBB := Lib.hid hBb
  have hge : w.heap.size ≤ w.heap.size + 1 + 1 := by omega
  have hne1 : ¬ w.heap.size + 1 + 1 = w.heap.size + 1 + 1 + 1 := by omega
  have hne2 : ¬ w.heap.size + 1 + 1 + 1 = w.heap.size + 1 + 1 := by omega
  clear hp ha hpcell hacell hwB hMb hRb hFb hBb hsB
  by_cases hlong : ps.length < ass.length
  · have hli : (ps.length : Int) < ass.length := by omega
    have HBAD : Hid (BindBad ps ass) := Lib.hid (.inl hlong)
    go_enter Tryd.func28, Tryd.ntmps28
    go_wp2_with fail
    rw [HWB.out]
    have hFw := HFB.out.below (Below.refl _ _) HFB.out.lt
    have hRw := HRB.out.below (Below.refl _ _) HRB.out.lt
    have f0 : wB.cell? ⟨w.heap.size + 1 + 1 + 1, 0, none⟩ = some (.int .i64 t.line) := hFw.cell 0
    have f1 : wB.cell? ⟨w.heap.size + 1 + 1 + 1, 1, none⟩ = some (.int .i64 t.col) := hFw.cell 1
    have f2 : wB.cell? ⟨w.heap.size + 1 + 1 + 1, 2, none⟩ = some (.int .i64 9) := hFw.cell 2
    have x0 : wB.cell? ⟨w.heap.size + 1 + 1, 0, none⟩ = some (.int .i64 0) := hRw.cell 0
    have x1 : wB.cell? ⟨w.heap.size + 1 + 1, 1, none⟩ = some (.int .i64 0) := hRw.cell 1
    have x2 : wB.cell? ⟨w.heap.size + 1 + 1, 2, none⟩ = some (.int .i64 0) := hRw.cell 2
    have z0 := hRw.frozen 0
    have z1 := hRw.frozen 1
    have z2 := hRw.frozen 2
    go_region
    all_goals (try go_wp2_with fail)
    all_goals exact bodyPost_ret (v := .tuple #[.slice none 0 0, .agg #[.int .i64 t.line, .int .i64 t.col, .int .i64 9]]) (by simp [results, Tryd.results28, go_sem, x0, x1, x2]) rfl ⟨.inr ⟨rfl, HBAD.out⟩, (((HBB.out.drew).setCell hge _).setCell hge _).setCell hge _⟩
  · have hli : ¬ (ps.length : Int) < ass.length := by omega
    have HLE : Hid (ass.length ≤ ps.length) := Lib.hid (by omega)
    go_enter Tryd.func28, Tryd.ntmps28
    go_wp2_with fail
    rw [HWB.out]
    go_loopw [8, 10] (fun v i wr => ∃ (k : Nat) (done : List (List Tk6)) (us : List Value), k ≤ ps.length ∧ i = .int .i64 k ∧ Hid (WInv w wB ps ass k v wr done us)) (fun _ i _ => ps.length - (intOf i).toNat)
    case atStart => exact ⟨0, [], [], Nat.zero_le _, rfl, Lib.hid ⟨rfl, fun j x h => by simp at h, World.ownsRow_nil _ _ _ _, ⟨rfl, fun i p h => by simp at h⟩, Below.refl _ _⟩⟩
    case round =>
      obtain ⟨k, done, us, hk, rfl, HI⟩ := hrel
      obtain ⟨Av, cv, rfl⟩ := own_shape HI.out.own
      have HBW : Hid (Below w.heap.size w wr) := Lib.hid (HBB.out.trans (HI.out.below.mono HBB.out.size))
      have m1 : wr.cell? ⟨w.heap.size, 1, none⟩ = some (.slice Ap ps.length cp) := (HMB.out.below HI.out.below HMB.out.lt).cell 1
      have hFw := HFB.out.below HI.out.below HFB.out.lt
      have hRw := HRB.out.below HI.out.below HRB.out.lt
      have f0 : wr.cell? ⟨w.heap.size + 1 + 1 + 1, 0, none⟩ = some (.int .i64 t.line) := hFw.cell 0
      have f1 : wr.cell? ⟨w.heap.size + 1 + 1 + 1, 1, none⟩ = some (.int .i64 t.col) := hFw.cell 1
      have f2 : wr.cell? ⟨w.heap.size + 1 + 1 + 1, 2, none⟩ = some (.int .i64 9) := hFw.cell 2
      have x0 : wr.cell? ⟨w.heap.size + 1 + 1, 0, none⟩ = some (.int .i64 0) := hRw.cell 0
      have x1 : wr.cell? ⟨w.heap.size + 1 + 1, 1, none⟩ = some (.int .i64 0) := hRw.cell 1
      have x2 : wr.cell? ⟨w.heap.size + 1 + 1, 2, none⟩ = some (.int .i64 0) := hRw.cell 2
      have z0 := hRw.frozen 0
      have z1 := hRw.frozen 1
      have z2 := hRw.frozen 2
      clear hFw hRw
      by_cases hkl : k < ps.length
      · have hki : (k : Int) < ps.length := by omega
        have hkc : (k : Int) < cp := by omega
        have hkb : (k : Int) ≤ 100000 := by omega
        obtain ⟨p, hpk⟩ : ∃ p, ps[k]? = some p := ⟨_, List.getElem?_eq_getElem hkl⟩
        obtain ⟨bp, op, d, rfl, hd, hpc⟩ := HP.out k p hpk
        obtain ⟨Ad, cd, rfl, -⟩ := hd.form
        obtain ⟨e0, e1, e2⟩ := hpc wr HBW.out
        have HD := Lib.hid hd
        have HPK := Lib.hid hpk
        clear hpc hd hpk
        by_cases hka : k < ass.length
        · have hai : (k : Int) < ass.length := by omega
          have had : decide ((k : Int) < ass.length) = true := decide_eq_true hai
          have hac2 : (k : Int) < ca := by omega
          obtain ⟨a, hak⟩ : ∃ a, ass[k]? = some a := ⟨_, List.getElem?_eq_getElem hka⟩
          obtain ⟨ba, oa, da, rfl, hda, hacc⟩ := HA.out k a hak
          obtain ⟨A2, c2, rfl, -⟩ := hda.form
          have g0 := hacc wr HBW.out
          have HDA := Lib.hid hda
          have HAK := Lib.hid hak
          clear hacc hda hak
          by_cases ha0 : 0 < a.length
          · have hz : (0 : Int) < a.length := by omega
            have hzd : decide ((0 : Int) < a.length) = true := decide_eq_true hz
            have HVAL : Hid (valAt ps ass k = some a) := Lib.hid (by unfold valAt; rw [HAK.out]; exact if_pos ha0)
            have HC2 := Lib.hid (fun (w1 : World) => cells_new w1 #[.slice A2 a.length c2] 30 w1.heap.size rfl)
            go_wp2_with (first | (at_builtin; refine wpList_append_own _ rfl _ _ 23 rfl wB.heap.size 30 i1 (.slice none 0 0) 1 24 Tryd.underlying23 hi1 hz0 hz1 hz2 rfl (by decide) _ _ _ rfl (HI.out.own.alloc _) ⟨wr.heap.size, 0, none⟩ 1 1 [.slice A2 a.length c2] rfl rfl (HC2.out wr) (by intro x hx; simp at hx; subst hx; rfl) (by unfold maxLen; omega) (by omega) (by have := HI.out.below.size; simp; omega) ?_; intro v' w9 hown' hgrow _; have RR := w_step HI.out HDA.out HVAL.out hown' hgrow; clear hown' hgrow))
            have HRR := Lib.hid RR
            clear RR
            go_roundw
            case rel => exact ⟨k + 1, _, _, by omega, by go_num, HRR⟩
            case measure => simp [intOf]; omega
          · have hz : ¬ (0 : Int) < a.length := by omega
            have hzd : decide ((0 : Int) < a.length) = false := decide_eq_false hz
            have HN : Hid (¬ 0 < (ass[k]?.getD []).length) := Lib.hid (by rw [HAK.out]; exact ha0)
            by_cases hph : p.has = true
            · have HVAL : Hid (valAt ps ass k = some p.dflt) := Lib.hid (by unfold valAt; rw [if_neg HN.out, HPK.out]; exact if_pos hph)
              rw [hph] at e1
              have HC2 := Lib.hid (fun (w1 : World) => cells_new w1 #[.slice Ad p.dflt.length cd] 30 w1.heap.size rfl)
              go_wp2_with (first | (at_builtin; refine wpList_append_own _ rfl _ _ 23 rfl wB.heap.size 30 i1 (.slice none 0 0) 1 24 Tryd.underlying23 hi1 hz0 hz1 hz2 rfl (by decide) _ _ _ rfl (HI.out.own.alloc _) ⟨wr.heap.size, 0, none⟩ 1 1 [.slice Ad p.dflt.length cd] rfl rfl (HC2.out wr) (by intro x hx; simp at hx; subst hx; rfl) (by unfold maxLen; omega) (by omega) (by have := HI.out.below.size; simp; omega) ?_; intro v' w9 hown' hgrow _; have RR := w_step HI.out HD.out HVAL.out hown' hgrow; clear hown' hgrow))
              have HRR := Lib.hid RR
              clear RR
              go_roundw
              case rel => exact ⟨k + 1, _, _, by omega, by go_num, HRR⟩
              case measure => simp [intOf]; omega
            · have hph2 : p.has = false := (Bool.not_eq_true _).mp hph
              have HBAD : Hid (BindBad ps ass) := Lib.hid (.inr ⟨k, hkl, by unfold valAt; rw [if_neg HN.out, HPK.out]; exact if_neg hph⟩)
              rw [hph2] at e1
              clear hph hph2
              go_wp2_with fail
              go_region
              all_goals (try go_wp2_with fail)
              all_goals exact bodyPost_ret (v := .tuple #[.slice none 0 0, .agg #[.int .i64 t.line, .int .i64 t.col, .int .i64 9]]) (by simp [results, Tryd.results28, go_sem, x0, x1, x2]) rfl ⟨.inr ⟨rfl, HBAD.out⟩, (((HBW.out.drew).setCell hge _).setCell hge _).setCell hge _⟩
        · have hai : ¬ (k : Int) < ass.length := by omega
          have had : decide ((k : Int) < ass.length) = false := decide_eq_false hai
          have HN : Hid (¬ 0 < (ass[k]?.getD []).length) := Lib.hid (by rw [List.getElem?_eq_none (by omega)]; decide)
          by_cases hph : p.has = true
          · have HVAL : Hid (valAt ps ass k = some p.dflt) := Lib.hid (by unfold valAt; rw [if_neg HN.out, HPK.out]; exact if_pos hph)
            rw [hph] at e1
            have HC2 := Lib.hid (fun (w1 : World) => cells_new w1 #[.slice Ad p.dflt.length cd] 30 w1.heap.size rfl)
            go_wp2_with (first | (at_builtin; refine wpList_append_own _ rfl _ _ 23 rfl wB.heap.size 30 i1 (.slice none 0 0) 1 24 Tryd.underlying23 hi1 hz0 hz1 hz2 rfl (by decide) _ _ _ rfl (HI.out.own.alloc _) ⟨wr.heap.size, 0, none⟩ 1 1 [.slice Ad p.dflt.length cd] rfl rfl (HC2.out wr) (by intro x hx; simp at hx; subst hx; rfl) (by unfold maxLen; omega) (by omega) (by have := HI.out.below.size; simp; omega) ?_; intro v' w9 hown' hgrow _; have RR := w_step HI.out HD.out HVAL.out hown' hgrow; clear hown' hgrow))
            have HRR := Lib.hid RR
            clear RR
            go_roundw
            case rel => exact ⟨k + 1, _, _, by omega, by go_num, HRR⟩
            case measure => simp [intOf]; omega
          · have hph2 : p.has = false := (Bool.not_eq_true _).mp hph
            have HBAD : Hid (BindBad ps ass) := Lib.hid (.inr ⟨k, hkl, by unfold valAt; rw [if_neg HN.out, HPK.out]; exact if_neg hph⟩)
            rw [hph2] at e1
            clear hph hph2
            go_wp2_with fail
            go_region
            all_goals (try go_wp2_with fail)
            all_goals exact bodyPost_ret (v := .tuple #[.slice none 0 0, .agg #[.int .i64 t.line, .int .i64 t.col, .int .i64 9]]) (by simp [results, Tryd.results28, go_sem, x0, x1, x2]) rfl ⟨.inr ⟨rfl, HBAD.out⟩, (((HBW.out.drew).setCell hge _).setCell hge _).setCell hge _⟩
      · obtain rfl : k = ps.length := by omega
        have HOK : Hid (BindOk ps ass done) := Lib.hid ⟨HLE.out, HI.out.len, HI.out.val⟩
        have HLN := Lib.hid HI.out.len
        have hbf := fun u0 u1 u2 => ((HBW.out.setCell (p := ⟨w.heap.size + 1 + 1, 0, none⟩) (by simp only; omega) u0).setCell (p := ⟨w.heap.size + 1 + 1, 1, none⟩) (by simp only; omega) u1).setCell (p := ⟨w.heap.size + 1 + 1, 2, none⟩) (by simp only; omega) u2
        have hlow : w.heap.size + 1 + 1 < wB.heap.size := by have := HSB.out; omega
        have hpf : ∀ u0 u1 u2, TokRows (((wr.setCell ⟨w.heap.size + 1 + 1, 0, none⟩ u0).setCell ⟨w.heap.size + 1 + 1, 1, none⟩ u1).setCell ⟨w.heap.size + 1 + 1, 2, none⟩ u2) (.slice Av ps.length cv) done := fun u0 u1 u2 => tokRows_of_v (ownsRow_setCell_below (a := ⟨w.heap.size + 1 + 1, 2, none⟩) (ownsRow_setCell_below (a := ⟨w.heap.size + 1 + 1, 1, none⟩) (ownsRow_setCell_below (a := ⟨w.heap.size + 1 + 1, 0, none⟩) HI.out.own hlow u0) hlow u1) hlow u2) HI.out.len.symm (HI.out.rows.below (hbf u0 u1 u2))
        have HPF := Lib.hid hpf
        have HBF := Lib.hid hbf
        clear hbf hpf
        go_wp2_with fail
        exact bodyPost_ret (v := .tuple #[.slice Av ps.length cv, .agg #[.int .i64 0, .int .i64 0, .int .i64 0]]) (by simp [results, Tryd.results28, go_sem, x0, x1, x2]) rfl ⟨.inl ⟨_, done, rfl, HOK.out, HPF.out _ _ _⟩, HBF.out _ _ _⟩
end Go.Proofs.YtbhfblogjlpnlabDoor
