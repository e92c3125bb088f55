/-
  The contract of the program's Bind: each parameter's value, or a fault at the name. Conditions: the handle of the type error; parameters and arguments lie in the memory, at most 100000 of them, each of at most 100000 tokens.
-/
import Derived.Test.YtbhfblogjlpnlabDoorMacHead
namespace Go.Proofs.YtbhfblogjlpnlabDoor
open Go.RowKit

/-- What a parameter is handed. -/
def valAt (ps : List HPar) (ass : List (List Tk6)) (k : Nat) : Option (List Tk6) :=
  if 0 < (ass[k]?.getD []).length then ass[k]? else match ps[k]? with
    | some p => if p.has = true then some p.dflt else none
    | none => none
def BindOk (ps : List HPar) (ass vals : List (List Tk6)) : Prop := ass.length ≤ ps.length ∧ vals.length = ps.length ∧ ∀ (j : Nat) (v : List Tk6), vals[j]? = some v → valAt ps ass j = some v
def BindBad (ps : List HPar) (ass : List (List Tk6)) : Prop := ps.length < ass.length ∨ ∃ j, j < ps.length ∧ valAt ps ass j = none

theorem clone_any (w : World) (v : Value) (ps : List Tk6) (hv : Toks w v ps) (hn : ps.length ≤ 100000) : Calls Tryd.prog 50 #[v] w fun e w' => (∃ A c, e = .returned (.slice A ps.length c) ∧ w'.ownsRow w.heap.size 56 6 (.slice A ps.length c) ps.length (cellsOf ps)) ∧ Below w.heap.size w w' := by
  rcases hv with ⟨A, c, rfl, _, rfl⟩ | ⟨b, o, c, rfl, h2, h3, h4, h5⟩
  · cases A with
    | none =>
      refine (clone_nil c w).mono ?_
      rintro e w' ⟨rfl, rfl⟩
      exact ⟨⟨none, 0, rfl, World.ownsRow_nil _ _ _ _⟩, Below.refl _ _⟩
    | some a =>
      refine (clone_some a 0 c [] w (by omega) rfl (fun q u hq => by simp at hq) (fun u hu => by cases hu)).mono ?_
      rintro e w' ⟨⟨v, rfl, hv⟩, hb⟩
      obtain ⟨A, c, rfl⟩ := own_shape hv
      exact ⟨⟨A, c, rfl, hv⟩, hb⟩
  · refine (clone_some ⟨b, o, none⟩ ps.length c (cellsOf ps) w hn (cellsOf_len ps) (fun j u hj => ?_) (cellsOf_one ps)).mono ?_
    · have hadd : (⟨b, o, none⟩ : Addr).add j = ⟨b, o + j, none⟩ := by unfold Addr.add; split <;> simp_all
      rw [hadd]
      exact cellsOf_at ps w b o h5 j u hj
    · rintro e w' ⟨⟨v, rfl, hv⟩, hb⟩
      obtain ⟨A, c, rfl⟩ := own_shape hv
      exact ⟨⟨A, c, rfl, hv⟩, hb⟩

/-- What holds while values are bound. -/
structure VInv (w0 : World) (ps : List HPar) (ass : List (List Tk6)) (k : Nat) (v : Value) (wr : World) (done : List (List Tk6)) (us : List Value) : Prop where
  len : done.length = k
  val : ∀ (j : Nat) (x : List Tk6), done[j]? = some x → valAt ps ass j = some x
  own : wr.ownsRow w0.heap.size 30 1 v k us
  rows : RowsAt wr w0.heap.size us done
  below : Below w0.heap.size w0 wr

theorem v_step {w0 wr w1 w3 : World} {ps : List HPar} {ass done : List (List Tk6)} {x : List Tk6} {k : Nat} {v v' u : Value} {us : List Value} {o1 : Obj} (h : VInv w0 ps ass k v wr done us)
    (hb1 : Below wr.heap.size wr w1) (hu : w1.ownsRow w0.heap.size 56 6 u x.length (cellsOf x)) (hx : valAt ps ass k = some x)
    (hown' : w3.ownsRow w0.heap.size 30 1 v' (k + 1) (us ++ [u])) (hgrow : (w1.alloc o1).grownBy w3 v.ownBlock) : VInv w0 ps ass (k + 1) v' w3 (done ++ [x]) (us ++ [u]) := by
  have hsz := h.below.size
  have hs1 := hb1.size
  have hown2 : (w1.alloc o1).ownsRow w0.heap.size 30 1 v k us := (own_below h.own hb1).alloc _
  have hl1 : RowsAt (w1.alloc o1) w0.heap.size (us ++ [u]) (done ++ [x]) :=
    ((h.rows.below hb1).snoc hu).below (w' := w1.alloc o1) ((Below.refl _ _).alloc (Nat.le_refl _) _)
  refine ⟨by rw [List.length_append, h.len]; rfl, ?_, hown', hl1.grown hown2 hgrow, ?_⟩
  · intro j y hj
    rcases Nat.lt_trichotomy j done.length with hlt | rfl | hgt
    · rw [List.getElem?_append_left hlt] at hj
      exact h.val j y hj
    · simp at hj
      subst hj
      rw [h.len]
      exact hx
    · rw [List.getElem?_eq_none (by simp; omega)] at hj
      cases hj
  · refine Below.grown ((h.below.trans (hb1.mono hsz)).alloc (by omega) o1) hgrow (by simp; omega) ?_
    intro g hg
    exact (h.own.lt g hg).1

set_option maxRecDepth 100000 in
set_option maxHeartbeats 4000000 in
theorem bind_is (ps : List HPar) (ass : List (List Tk6)) (nm : ByteArray) (vp vl va : Value) (t : Tk6) (w : World) (hg : Handle w) (hp : Pars w vp ps) (ha : TokRows w va ass) (h1 : ps.length ≤ 100000) (h2 : ∀ p ∈ ps, p.dflt.length ≤ 100000) (h3 : ∀ a ∈ ass, a.length ≤ 100000) (h4 : vl = .slice none 0 0 ∨ ∃ A n c, vl = .slice A n c) :
    Calls Tryd.prog 26 #[.agg #[.string nm, vp, vl], t.val, va] w fun e w' =>
      ((∃ v vals us, e = .returned (.tuple #[v, .nilIface]) ∧ BindOk ps ass vals ∧ w'.ownsRow w.heap.size 30 1 v vals.length us ∧ RowsAt w' w.heap.size us vals) ∨
       (∃ b, e = .returned (.tuple #[.slice none 0 0, .iface 107 (.pointer (some ⟨b, 0, none⟩))]) ∧ BindBad ps ass ∧ w.heap.size ≤ b ∧ Blk w' b 113 #[.int .i64 t.line, .int .i64 t.col, .iface 111 (.int .i64 9)])) ∧ Below w.heap.size w w' := by
  obtain ⟨i1, hi1, hz0, hz1, hz2⟩ := info_parts Tryd.infoLine
  obtain ⟨Al, nl, cl, rfl⟩ : ∃ A n c, vl = .slice A n c := by
    rcases h4 with rfl | h
    · exact ⟨_, _, _, rfl⟩
    · exact h
  obtain ⟨Ap, cp, rfl, hpc, hpm, hpcell⟩ := hp.form
  obtain ⟨Aa, ca, rfl, hac, ham, hacell⟩ := ha.form
  have HP := Lib.hid hpcell
  have HA := Lib.hid hacell
  have HG := Lib.hid hg
  have HAT := Lib.hid (fun W (hW : Below w.heap.size w W) => atToken_is t 9 W (hg.below hW hg.pos))
  have HBA : Hid (∀ o o2, Below w.heap.size w ((w.alloc o).alloc o2)) := Lib.hid (fun o o2 => ((Below.refl _ _).alloc (Nat.le_refl _) o).alloc (by simp) o2)
  have H2 := Lib.hid h2
  have H3 := Lib.hid h3
  clear hp ha hpcell hacell hg h2 h3 h4
  by_cases hlong : ps.length < ass.length
  · have hli : (ps.length : Int) < ass.length := by omega
    have HBAD : Hid (BindBad ps ass) := Lib.hid (.inl hlong)
    go_enter Tryd.func26, Tryd.ntmps26
    go_wp2_with fail
    refine (HAT.out _ (HBA.out _ _)).mono ?_
    rintro e w1 h
    obtain ⟨b, rfl, hb1, hb2, hb3⟩ := h.from_ (HBA.out _ _)
    go_wp2_with fail
    go_ret2
    exact ⟨.inr ⟨b, rfl, HBAD.out, hb1, hb2⟩, hb3⟩
  · have hli : ¬ (ps.length : Int) < ass.length := by omega
    have HLE : Hid (ass.length ≤ ps.length) := Lib.hid (by omega)
    obtain ⟨wB, hwB⟩ : ∃ wB, ((w.alloc (.cells #[.string nm, .slice Ap ps.length cp, .slice Al nl cl] 41)).alloc (.cells #[.int .i64 t.kind, .int .i64 t.line, .int .i64 t.col, .string t.text, .int .u32 t.num, .int .i64 t.spare] 56)) = wB := ⟨_, rfl⟩
    have hMb : Blk wB w.heap.size 41 #[.string nm, .slice Ap ps.length cp, .slice Al nl cl] := by rw [← hwB]; exact (Blk.new _ _ _).alloc _
    have hTb : Blk wB (w.heap.size + 1) 56 #[.int .i64 t.kind, .int .i64 t.line, .int .i64 t.col, .string t.text, .int .u32 t.num, .int .i64 t.spare] := by rw [← hwB]; have := Blk.new (w.alloc (.cells #[.string nm, .slice Ap ps.length cp, .slice Al nl cl] 41)) 56 #[.int .i64 t.kind, .int .i64 t.line, .int .i64 t.col, .string t.text, .int .u32 t.num, .int .i64 t.spare]; simpa using this
    have hBb : Below w.heap.size w wB := by rw [← hwB]; exact HBA.out _ _
    have HWB := Lib.hid hwB
    have HMB := Lib.hid hMb
    have HTB := Lib.hid hTb
    have HBB := Lib.hid hBb
    clear hwB hMb hTb hBb HBA
    go_enter Tryd.func26, Tryd.ntmps26
    go_wp2_with (first
      | (at_make; refine wpList_make_own _ rfl _ _ 23 rfl wB.heap.size 30 i1 (.slice none 0 0) 1 Tryd.underlying23 hi1 hz0 hz1 .i64 .i64 _ ps.length rfl rfl (by first | rfl | omega) (by rw [hz2]; omega) (by unfold maxLen; omega) (by rw [HWB.out]; exact Nat.le_refl _) ?_; intro w0 hown0 hgrow0; rw [HWB.out] at hown0 hgrow0; have hm0 : w0.cell? ⟨w.heap.size, 1, none⟩ = some (.slice Ap ps.length cp) := (HMB.out.grown hgrow0 (by simp)).cell 1))
    have HV : Hid (VInv wB ps ass 0 (.slice (some ⟨wB.heap.size, 0, none⟩) 0 ps.length) w0 [] []) := Lib.hid ⟨rfl, fun j x h => by simp at h, hown0, ⟨rfl, fun i p h => by simp at h⟩, Below.grown (Below.refl _ _) hgrow0 (Nat.le_refl _) (fun g h => by cases h)⟩
    have hszB : wB.heap.size = w.heap.size + 1 + 1 := by rw [← HWB.out]; simp
    rw [hszB] at HV
    clear hown0 hgrow0 hm0
    go_loopw [8, 28] (fun v i wr => ∃ (k : Nat) (done : List (List Tk6)) (us : List Value), k ≤ ps.length ∧ i = .int .i64 k ∧ Hid (VInv wB ps ass k v wr done us)) (fun _ i _ => ps.length - (intOf i).toNat)
    case atStart => exact ⟨0, [], [], Nat.zero_le _, rfl, HV⟩
    case round =>
      obtain ⟨k, done, us, hk, rfl, HI⟩ := hrel
      obtain ⟨Av, cv, rfl⟩ := own_shape HI.out.own
      have HBW : Hid (Below w.heap.size w wr) := Lib.hid (HBB.out.trans (HI.out.below.mono HBB.out.size))
      by_cases hkl : k < ps.length
      · have hki : (k : Int) < ps.length := by omega
        have hkc : (k : Int) < cp := by omega
        have hkb : (k : Int) ≤ 100000 := by omega
        obtain ⟨p, hpk⟩ : ∃ p, ps[k]? = some p := ⟨_, List.getElem?_eq_getElem hkl⟩
        obtain ⟨bp, op, d, rfl, hd, hpc⟩ := HP.out k p hpk
        obtain ⟨Ad, cd, rfl, -⟩ := hd.form
        obtain ⟨e0, e1, e2⟩ := hpc wr HBW.out
        have HD := Lib.hid hd
        have HPK := Lib.hid hpk
        have HDL : Hid (p.dflt.length ≤ 100000) := Lib.hid (H2.out p (List.mem_of_getElem? hpk))
        have HU : Hid (∀ o', Below w.heap.size w (wr.alloc o')) := Lib.hid (fun o' => HBW.out.alloc HBW.out.size o')
        have HWR : Hid (∀ o', Below wr.heap.size wr (wr.alloc o')) := Lib.hid (fun o' => (Below.refl _ _).alloc (Nat.le_refl _) o')
        clear hpc hd hpk
        by_cases hka : k < ass.length
        · have hai : (k : Int) < ass.length := by omega
          have had : decide ((k : Int) < ass.length) = true := decide_eq_true hai
          have hac2 : (k : Int) < ca := by omega
          obtain ⟨a, hak⟩ : ∃ a, ass[k]? = some a := ⟨_, List.getElem?_eq_getElem hka⟩
          obtain ⟨ba, oa, da, rfl, hda, hacc⟩ := HA.out k a hak
          obtain ⟨A2, c2, rfl, -⟩ := hda.form
          have g0 : ∀ o', (wr.alloc o').cell? ⟨ba, oa + k, none⟩ = some (.slice A2 a.length c2) := fun o' => hacc _ (HU.out o')
          have HDA := Lib.hid hda
          have HAK := Lib.hid hak
          have HAL : Hid (a.length ≤ 100000) := Lib.hid (H3.out a (List.mem_of_getElem? hak))
          clear hacc hda hak
          by_cases ha0 : 0 < a.length
          · have hz : (0 : Int) < a.length := by omega
            have hzd : decide ((0 : Int) < a.length) = true := decide_eq_true hz
            have HVAL : Hid (valAt ps ass k = some a) := Lib.hid (by unfold valAt; rw [HAK.out]; exact if_pos ha0)
            have HCL := Lib.hid (fun o' => clone_any (wr.alloc o') (.slice A2 a.length c2) a (HDA.out.below (HU.out o')) HAL.out)
            go_wp2_with fail
            refine (HCL.out _).mono ?_
            rintro e w1 ⟨⟨A3, c3, rfl, hu⟩, hb1⟩
            have HB2 : Hid (Below wr.heap.size wr w1) := Lib.hid ((HWR.out _).trans (hb1.mono (by simp)))
            have HUU : Hid (w1.ownsRow wB.heap.size 56 6 (.slice A3 a.length c3) a.length (cellsOf a)) := Lib.hid (own_base hu (by have := HI.out.below.size; simp; omega))
            have HC2 := Lib.hid (fun (w1 : World) => cells_new w1 #[.slice A3 a.length c3] 30 w1.heap.size rfl)
            clear hu hb1
            go_wp2_with (first | (at_builtin; refine wpList_append_own _ rfl _ _ 23 rfl wB.heap.size 30 i1 (.slice none 0 0) 1 24 Tryd.underlying23 hi1 hz0 hz1 hz2 rfl (by decide) _ _ _ rfl ((own_below HI.out.own HB2.out).alloc _) ⟨w1.heap.size, 0, none⟩ 1 1 [.slice A3 a.length c3] rfl rfl (HC2.out w1) (by intro x hx; simp at hx; subst hx; rfl) (by unfold maxLen; omega) (by omega) (by have := HI.out.below.size; have := HB2.out.size; simp; omega) ?_; intro v' w9 hown' hgrow _; have RR := v_step HI.out HB2.out HUU.out HVAL.out hown' hgrow; clear hown' hgrow))
            have HRR := Lib.hid RR
            clear RR
            go_roundw
            case rel => exact ⟨k + 1, _, _, by omega, by go_num, HRR⟩
            case measure => simp [intOf]; omega
          · have hz : ¬ (0 : Int) < a.length := by omega
            have hzd : decide ((0 : Int) < a.length) = false := decide_eq_false hz
            have HN : Hid (¬ 0 < (ass[k]?.getD []).length) := Lib.hid (by rw [HAK.out]; exact ha0)
            by_cases hph : p.has = true
            · have HVAL : Hid (valAt ps ass k = some p.dflt) := Lib.hid (by unfold valAt; rw [if_neg HN.out, HPK.out]; exact if_pos hph)
              rw [hph] at e1
              have HCL := Lib.hid (fun o' => clone_any (wr.alloc o') (.slice Ad p.dflt.length cd) p.dflt (HD.out.below (HU.out o')) HDL.out)
              go_wp2_with fail
              refine (HCL.out _).mono ?_
              rintro e w1 ⟨⟨A3, c3, rfl, hu⟩, hb1⟩
              have HB2 : Hid (Below wr.heap.size wr w1) := Lib.hid ((HWR.out _).trans (hb1.mono (by simp)))
              have HUU : Hid (w1.ownsRow wB.heap.size 56 6 (.slice A3 p.dflt.length c3) p.dflt.length (cellsOf p.dflt)) := Lib.hid (own_base hu (by have := HI.out.below.size; simp; omega))
              have HC2 := Lib.hid (fun (w1 : World) => cells_new w1 #[.slice A3 p.dflt.length c3] 30 w1.heap.size rfl)
              clear hu hb1
              go_wp2_with (first | (at_builtin; refine wpList_append_own _ rfl _ _ 23 rfl wB.heap.size 30 i1 (.slice none 0 0) 1 24 Tryd.underlying23 hi1 hz0 hz1 hz2 rfl (by decide) _ _ _ rfl ((own_below HI.out.own HB2.out).alloc _) ⟨w1.heap.size, 0, none⟩ 1 1 [.slice A3 p.dflt.length c3] rfl rfl (HC2.out w1) (by intro x hx; simp at hx; subst hx; rfl) (by unfold maxLen; omega) (by omega) (by have := HI.out.below.size; have := HB2.out.size; simp; omega) ?_; intro v' w9 hown' hgrow _; have RR := v_step HI.out HB2.out HUU.out HVAL.out hown' hgrow; clear hown' hgrow))
              have HRR := Lib.hid RR
              clear RR
              go_roundw
              case rel => exact ⟨k + 1, _, _, by omega, by go_num, HRR⟩
              case measure => simp [intOf]; omega
            · have hph2 : p.has = false := (Bool.not_eq_true _).mp hph
              have HBAD : Hid (BindBad ps ass) := Lib.hid (.inr ⟨k, hkl, by unfold valAt; rw [if_neg HN.out, HPK.out]; exact if_neg hph⟩)
              rw [hph2] at e1
              have htb := fun o' => HTB.out.below (HI.out.below.alloc HI.out.below.size o') HTB.out.lt
              have s0 : ∀ o', (wr.alloc o').cell? ⟨w.heap.size + 1, 0, none⟩ = some (.int .i64 t.kind) := fun o' => (htb o').cell 0
              have s1 : ∀ o', (wr.alloc o').cell? ⟨w.heap.size + 1, 1, none⟩ = some (.int .i64 t.line) := fun o' => (htb o').cell 1
              have s2 : ∀ o', (wr.alloc o').cell? ⟨w.heap.size + 1, 2, none⟩ = some (.int .i64 t.col) := fun o' => (htb o').cell 2
              have s3 : ∀ o', (wr.alloc o').cell? ⟨w.heap.size + 1, 3, none⟩ = some (.string t.text) := fun o' => (htb o').cell 3
              have s4 : ∀ o', (wr.alloc o').cell? ⟨w.heap.size + 1, 4, none⟩ = some (.int .u32 t.num) := fun o' => (htb o').cell 4
              have s5 : ∀ o', (wr.alloc o').cell? ⟨w.heap.size + 1, 5, none⟩ = some (.int .i64 t.spare) := fun o' => (htb o').cell 5
              clear hph hph2 htb
              go_wp2_with fail
              refine (HAT.out _ (HU.out _)).mono ?_
              rintro e w1 h
              obtain ⟨b, rfl, hb1, hb2, hb3⟩ := h.from_ (HU.out _)
              go_wp2_with fail
              go_ret2
              exact ⟨.inr ⟨b, rfl, HBAD.out, hb1, hb2⟩, hb3⟩
        · have hai : ¬ (k : Int) < ass.length := by omega
          have had : decide ((k : Int) < ass.length) = false := decide_eq_false hai
          have HN : Hid (¬ 0 < (ass[k]?.getD []).length) := Lib.hid (by rw [List.getElem?_eq_none (by omega)]; decide)
          by_cases hph : p.has = true
          · have HVAL : Hid (valAt ps ass k = some p.dflt) := Lib.hid (by unfold valAt; rw [if_neg HN.out, HPK.out]; exact if_pos hph)
            rw [hph] at e1
            have HCL := Lib.hid (fun o' => clone_any (wr.alloc o') (.slice Ad p.dflt.length cd) p.dflt (HD.out.below (HU.out o')) HDL.out)
            go_wp2_with fail
            refine (HCL.out _).mono ?_
            rintro e w1 ⟨⟨A3, c3, rfl, hu⟩, hb1⟩
            have HB2 : Hid (Below wr.heap.size wr w1) := Lib.hid ((HWR.out _).trans (hb1.mono (by simp)))
            have HUU : Hid (w1.ownsRow wB.heap.size 56 6 (.slice A3 p.dflt.length c3) p.dflt.length (cellsOf p.dflt)) := Lib.hid (own_base hu (by have := HI.out.below.size; simp; omega))
            have HC2 := Lib.hid (fun (w1 : World) => cells_new w1 #[.slice A3 p.dflt.length c3] 30 w1.heap.size rfl)
            clear hu hb1
            go_wp2_with (first | (at_builtin; refine wpList_append_own _ rfl _ _ 23 rfl wB.heap.size 30 i1 (.slice none 0 0) 1 24 Tryd.underlying23 hi1 hz0 hz1 hz2 rfl (by decide) _ _ _ rfl ((own_below HI.out.own HB2.out).alloc _) ⟨w1.heap.size, 0, none⟩ 1 1 [.slice A3 p.dflt.length c3] rfl rfl (HC2.out w1) (by intro x hx; simp at hx; subst hx; rfl) (by unfold maxLen; omega) (by omega) (by have := HI.out.below.size; have := HB2.out.size; simp; omega) ?_; intro v' w9 hown' hgrow _; have RR := v_step HI.out HB2.out HUU.out HVAL.out hown' hgrow; clear hown' hgrow))
            have HRR := Lib.hid RR
            clear RR
            go_roundw
            case rel => exact ⟨k + 1, _, _, by omega, by go_num, HRR⟩
            case measure => simp [intOf]; omega
          · have hph2 : p.has = false := (Bool.not_eq_true _).mp hph
            have HBAD : Hid (BindBad ps ass) := Lib.hid (.inr ⟨k, hkl, by unfold valAt; rw [if_neg HN.out, HPK.out]; exact if_neg hph⟩)
            rw [hph2] at e1
            have htb := fun o' => HTB.out.below (HI.out.below.alloc HI.out.below.size o') HTB.out.lt
            have s0 : ∀ o', (wr.alloc o').cell? ⟨w.heap.size + 1, 0, none⟩ = some (.int .i64 t.kind) := fun o' => (htb o').cell 0
            have s1 : ∀ o', (wr.alloc o').cell? ⟨w.heap.size + 1, 1, none⟩ = some (.int .i64 t.line) := fun o' => (htb o').cell 1
            have s2 : ∀ o', (wr.alloc o').cell? ⟨w.heap.size + 1, 2, none⟩ = some (.int .i64 t.col) := fun o' => (htb o').cell 2
            have s3 : ∀ o', (wr.alloc o').cell? ⟨w.heap.size + 1, 3, none⟩ = some (.string t.text) := fun o' => (htb o').cell 3
            have s4 : ∀ o', (wr.alloc o').cell? ⟨w.heap.size + 1, 4, none⟩ = some (.int .u32 t.num) := fun o' => (htb o').cell 4
            have s5 : ∀ o', (wr.alloc o').cell? ⟨w.heap.size + 1, 5, none⟩ = some (.int .i64 t.spare) := fun o' => (htb o').cell 5
            clear hph hph2 htb
            go_wp2_with fail
            refine (HAT.out _ (HU.out _)).mono ?_
            rintro e w1 h
            obtain ⟨b, rfl, hb1, hb2, hb3⟩ := h.from_ (HU.out _)
            go_wp2_with fail
            go_ret2
            exact ⟨.inr ⟨b, rfl, HBAD.out, hb1, hb2⟩, hb3⟩
      · obtain rfl : k = ps.length := by omega
        have HOK : Hid (BindOk ps ass done) := Lib.hid ⟨HLE.out, HI.out.len, HI.out.val⟩
        have HLN := Lib.hid HI.out.len
        go_wp2_with fail
        go_ret2
        exact ⟨.inl ⟨_, done, us, rfl, HOK.out, by rw [HLN.out]; exact own_base HI.out.own HBB.out.size, ⟨HI.out.rows.1, fun i q hq => by
          obtain ⟨u, hu, ho⟩ := HI.out.rows.2 i q hq
          exact ⟨u, hu, own_base ho HBB.out.size⟩⟩⟩, HBW.out⟩
end Go.Proofs.YtbhfblogjlpnlabDoor
