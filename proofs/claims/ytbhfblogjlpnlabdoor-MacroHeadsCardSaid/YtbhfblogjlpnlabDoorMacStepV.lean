/-
  The contract of the step value of a macro's head. Conditions: as those of the steps; there is a parameter.
-/
import Derived.Test.YtbhfblogjlpnlabDoorMacStepB
namespace Go.Proofs.YtbhfblogjlpnlabDoor
open Go.RowKit

theorem own_set {w : World} {base size n cap g : Nat} {e : TypeId} {xs : List Value} (h : w.ownsRow base e size (.slice (some ⟨g, 0, none⟩) n cap) n xs) (k : Nat) (u : Value) : (w.setCell ⟨g, k, none⟩ u).ownsRow base e size (.slice (some ⟨g, 0, none⟩) n cap) n (xs.set k u) := by
  refine ⟨by rw [List.length_set]; exact h.1, .inr ?_⟩
  rcases h.2 with ⟨h0, _⟩ | ⟨g', cap', cur, hv, hg, hh, hc, hm, hs, ht⟩
  · cases h0
  · injection hv with hv1 _ hv3
    injection hv1 with hv1
    injection hv1 with hv1
    subst hv1 hv3
    exact ⟨g, cap, cur.setIfInBounds k u, rfl, hg, heap_setCell_same w g k cur e u hh, hc, hm, by simpa using hs, by rw [Array.toList_setIfInBounds, List.take_set, ht]⟩
theorem own_blk {w : World} {base size n cap g : Nat} {e : TypeId} {xs : List Value} (h : w.ownsRow base e size (.slice (some ⟨g, 0, none⟩) n cap) n xs) : ∃ cur, Blk w g e cur := by
  rcases h.2 with ⟨h0, _⟩ | ⟨g', cap', cur, hv, hg, hh, _⟩
  · cases h0
  · injection hv with hv1 _ _
    injection hv1 with hv1
    injection hv1 with hv1
    subst hv1
    exact ⟨cur, hh⟩
theorem blk_ne {w : World} {g h : Nat} {t t' : TypeId} {cs cs' : Array Value} (h1 : Blk w g t cs) (h2 : Blk w h t' cs') (hne : t ≠ t') : g ≠ h := by
  rintro rfl
  have h1' : w.heap[g]? = some (.cells cs t (0, 0)) := h1
  have h2' : w.heap[g]? = some (.cells cs' t' (0, 0)) := h2
  rw [h1'] at h2'
  injection h2' with h2'
  injection h2' with _ h2'
  exact hne h2'
theorem parCells_set (qs : List (HPar × Value)) (q : HPar × Value) (u : Value) (d : List Tk6) : ((parCells (qs ++ [q])).set (qs.length * 3 + 1) (.bool true)).set (qs.length * 3 + 2) u = parCells (qs ++ [(⟨q.1.name, true, d⟩, u)]) := by
  have hl := parCells_len qs
  rw [parCells_app, parCells_app]
  show ((parCells qs ++ [.string q.1.name, .bool q.1.has, q.2]).set (qs.length * 3 + 1) (.bool true)).set (qs.length * 3 + 2) u = parCells qs ++ [.string q.1.name, .bool true, u]
  rw [List.set_append_right _ _ (by omega), List.set_append_right _ _ (by omega), hl]
  have h1 : qs.length * 3 + 1 - qs.length * 3 = 1 := by omega
  have h2 : qs.length * 3 + 2 - qs.length * 3 = 2 := by omega
  rw [h1, h2]
  rfl

/-- A default is put to the last parameter. -/
theorem HRest.dflt {w0 w : World} {H g cap : Nat} {ps : List HPar} {qs : List (HPar × Value)} {q : HPar × Value} {u : Value} {d : List Tk6} (h : HRest w0 H ps (.slice (some ⟨g, 0, none⟩) (qs.length + 1) cap) (qs ++ [q]) w) (hu : w.ownsRow w0.heap.size 56 6 u d.length (cellsOf d)) :
    HRest w0 H (withLast ps d) (.slice (some ⟨g, 0, none⟩) (qs.length + 1) cap) (qs ++ [(⟨q.1.name, true, d⟩, u)]) ((w.setCell ⟨g, qs.length * 3 + 1, none⟩ (.bool true)).setCell ⟨g, qs.length * 3 + 2, none⟩ u) := by
  obtain ⟨cs, hcs⟩ := h.blk
  have hown := h.own
  rw [List.length_append, List.length_singleton] at hown
  obtain ⟨cur, hcur⟩ := own_blk hown
  have hbase : w0.heap.size ≤ g := (hown.lt g rfl).1
  have hgH : H ≠ g := blk_ne hcs hcur (by decide)
  have ho2 := own_set (own_set hown (qs.length * 3 + 1) (.bool true)) (qs.length * 3 + 2) u
  rw [parCells_set qs q u d] at ho2
  have hcur1 := hcur.set (qs.length * 3 + 1) (.bool true)
  have hkeep : ∀ {e size n : Nat} {v : Value} {xs : List Value}, e ≠ 99 → w.ownsRow w0.heap.size e size v n xs → ((w.setCell ⟨g, qs.length * 3 + 1, none⟩ (.bool true)).setCell ⟨g, qs.length * 3 + 2, none⟩ u).ownsRow w0.heap.size e size v n xs := fun hne hv => by
    have h1 := ownsRow_setCell_other hv (a := ⟨g, qs.length * 3 + 1, none⟩) (own_not_head hv hcur hne) (.bool true)
    exact ownsRow_setCell_other h1 (a := ⟨g, qs.length * 3 + 2, none⟩) (own_not_head h1 hcur1 hne) u
  refine ⟨?_, by rw [List.length_append, List.length_singleton]; exact ho2, ?_, (h.below.setCell hbase _).setCell hbase _, h.base, _, (hcs.far hgH _).far hgH _⟩
  · rw [← h.eq]
    unfold withLast
    simp
  · intro x hx
    rcases List.mem_append.1 hx with hx | hx
    · exact hkeep (by decide) (h.rows x (List.mem_append.2 (.inl hx)))
    · obtain rfl := List.mem_singleton.1 hx
      exact hkeep (by decide) hu

set_option maxRecDepth 100000 in
set_option maxHeartbeats 4000000 in
theorem value_is (w0 : World) (ts : List Tk6) (vt vp : Value) (qs : List (HPar × Value)) (H : Nat) (s : HState) (w : World) (hn : ts.length ≤ 100000) (hi : s.at_ ≤ ts.length) (hps : s.ps ≠ []) (hfew : s.ps.length ≤ s.at_) (hb : HBlk w H vt s.at_ s.name vp .nilFunc) (hv : Toks w0 vt ts) (hr : HRest w0 H s.ps vp qs w) :
    Calls Tryd.prog 105 #[.pointer (some ⟨H, 0, none⟩)] w (HOutE w0 ts vt H (valueStep ts s)) := by
  obtain ⟨i, n, ps⟩ := s
  simp only at hb hr hi hps hfew
  have hvw := hv.below hr.below
  obtain ⟨q0, q, rfl⟩ : ∃ q0 q, qs = q0 ++ [q] := by
    have hne : qs ≠ [] := by
      rintro rfl
      exact hps hr.eq.symm
    exact ⟨qs.dropLast, qs.getLast hne, (List.dropLast_concat_getLast hne).symm⟩
  have hown := hr.own
  rw [List.length_append, List.length_singleton] at hown
  obtain ⟨gp, cap, rfl, hmc, hcapm⟩ : ∃ gp cap, vp = .slice (some ⟨gp, 0, none⟩) (q0.length + 1) cap ∧ q0.length + 1 ≤ cap ∧ cap ≤ maxLen := by
    rcases hown.2 with ⟨_, h0⟩ | ⟨g, cap, cur, hv, hg, hh, hc, hm, _⟩
    · omega
    · exact ⟨g, cap, hv, hc, hm⟩
  have hql : q0.length + 1 ≤ 100001 := by
    have := congrArg List.length hr.eq
    rw [List.length_map, List.length_append, List.length_singleton] at this
    omega
  obtain ⟨cur, hcur⟩ := own_blk hown
  obtain ⟨csH, hcsH⟩ := hr.blk
  have hne1 : ¬ gp = H := blk_ne hcur hcsH (by decide)
  have hne2 : ¬ H = gp := fun e => hne1 e.symm
  have hcells : ∀ j u, (parCells (q0 ++ [q]))[j]? = some u → w.cell? ⟨gp, j, none⟩ = some u := fun j u hj => by
    have := hown.cells (g := gp) rfl j u hj
    rwa [addr0] at this
  have HG1 : Hid (∀ W, Below w.heap.size w W → W.cell? ⟨gp, q0.length * 3 + 1, none⟩ = some (.bool q.1.has) ∧ W.cell? ⟨gp, q0.length * 3 + 2, none⟩ = some q.2 ∧ W.frozen? ⟨gp, q0.length * 3 + 1, none⟩ = false ∧ W.frozen? ⟨gp, q0.length * 3 + 2, none⟩ = false) := Lib.hid (fun W hW => by
    have hq : (q0 ++ [q])[q0.length]? = some q := by simp
    have a1 := hcells _ _ ((parCells_at (q0 ++ [q]) q0.length q 1 hq (by decide)).trans rfl)
    have a2 := hcells _ _ ((parCells_at (q0 ++ [q]) q0.length q 2 hq (by decide)).trans rfl)
    exact ⟨(hW.cell (p := ⟨gp, q0.length * 3 + 1, none⟩) hcur.lt).trans a1, (hW.cell (p := ⟨gp, q0.length * 3 + 2, none⟩) hcur.lt).trans a2, (hcur.below hW hcur.lt).frozen _, (hcur.below hW hcur.lt).frozen _⟩)
  have HR := Lib.hid hr
  have HBK := Lib.hid hb
  have hle := partEnd_le Tk6.mk3 0 (ts.drop i)
  rw [List.length_drop] at hle
  have HPE := Lib.hid (fun W (hW : Below w.heap.size w W) => partEnd_is ts vt i W (hvw.below hW) hi hn)
  have hstep : valueStep ts ⟨i, n, ps⟩ = .inl (if i + partEnd Tk6.mk3 0 (ts.drop i) < ts.length then some .behind else none, ⟨i + partEnd Tk6.mk3 0 (ts.drop i), n, withLast ps ((ts.drop i).take (partEnd Tk6.mk3 0 (ts.drop i)))⟩) := rfl
  rw [hstep]
  clear hstep
  generalize partEnd Tk6.mk3 0 (ts.drop i) = e at *
  obtain ⟨E, hE⟩ : ∃ E, i + e = E := ⟨_, rfl⟩
  rw [hE] at HPE ⊢
  have hpl : ((ts.drop i).take e).length = e := by rw [List.length_take, List.length_drop]; omega
  have HPL := Lib.hid hpl
  have HSEG := Lib.hid (fun q u h => cellsOf_seg ts i e (by omega) q u h)
  have hts : 0 < ts.length := by have := List.length_pos_iff.2 hps; omega
  obtain ⟨b, o, c, rfl, hc, hcm, hbw, hcell⟩ : ∃ (b o c : Nat), vt = .slice (some ⟨b, o, none⟩) ts.length c ∧ ts.length ≤ c ∧ c ≤ maxLen ∧ b < w.heap.size ∧ ∀ q u, (cellsOf ts)[q]? = some u → w.cell? ⟨b, o + q, none⟩ = some u := by
    rcases hvw with ⟨_, _, _, _, h0⟩ | ⟨b, o, c, h1, h2, h3, h4, h5⟩
    · rw [h0] at hts
      exact absurd hts (by decide)
    · exact ⟨b, o, c, h1, h2, h3, h4, cellsOf_at ts w b o h5⟩
  have HCELL := Lib.hid (fun q u hq W (hW : Below w.heap.size w W) => (hW.cell (p := ⟨b, o + q, none⟩) hbw).trans (hcell q u hq))
  have hmw : (q0.length : Int) + 1 ≤ 9223372036854775807 := by omega
  have hmb : (q0.length : Int) < cap := by omega
  have hib : (i : Int) ≤ 100001 := by omega
  have hiE : (i : Int) ≤ E := by omega
  have hEc : (E : Int) ≤ c := by omega
  have hEl : (E : Int) ≤ ts.length := by omega
  have HEi : Hid (E - i = e) := Lib.hid (by omega)
  have HEn : Hid (E ≤ ts.length) := Lib.hid (by omega)
  have c0 : w.cell? ⟨H, 0, none⟩ = some (.slice (some ⟨b, o, none⟩) ts.length c) := HBK.out.cell 0
  have c1 : w.cell? ⟨H, 1, none⟩ = some (.int .i64 i) := HBK.out.cell 1
  have HUP : Hid (∀ W, Below w.heap.size w W → W.cell? ⟨H, 0, none⟩ = some (.slice (some ⟨b, o, none⟩) ts.length c) ∧ W.cell? ⟨H, 1, none⟩ = some (.int .i64 i) ∧ W.cell? ⟨H, 3, none⟩ = some (.slice (some ⟨gp, 0, none⟩) (q0.length + 1) cap) ∧ W.cell? ⟨H, 5, none⟩ = some .nilFunc ∧ W.frozen? ⟨H, 1, none⟩ = false ∧ W.frozen? ⟨H, 5, none⟩ = false) := Lib.hid (fun W hW => ⟨(HBK.out.next hW).cell 0, (HBK.out.next hW).cell 1, (HBK.out.next hW).cell 3, (HBK.out.next hW).cell 5, (HBK.out.next hW).frozen 1, (HBK.out.next hW).frozen 5⟩)
  clear hb hv hr hvw hown hcells hcur hcsH hcell hpl hle hE hts
  by_cases hck : c = i
  · obtain rfl : E = i := by omega
    subst hck
    have HNIL : Hid ((ts.drop c).take e = []) := Lib.hid (List.eq_nil_of_length_eq_zero (by rw [HPL.out, ← HEi.out]; omega))
    rw [if_neg (show ¬ c < ts.length by omega)]
    have HCM : Hid (∀ W, Below w.heap.size w W → Calls Tryd.prog 50 #[.slice (some ⟨b, o, none⟩) 0 0] W fun r w' => ∃ Au cu, r = .returned (.slice Au 0 cu) ∧ w'.ownsRow w0.heap.size 56 6 (.slice Au 0 cu) ((ts.drop c).take e).length (cellsOf ((ts.drop c).take e)) ∧ Below w.heap.size w w') := Lib.hid (fun W hW => (clone_some ⟨b, o, none⟩ 0 0 [] W (by omega) rfl (fun q u hq => by simp at hq) (fun u hu => by cases hu)).mono fun r w' ⟨⟨u, hr, hu⟩, hb⟩ => by
      obtain ⟨Au, cu, rfl⟩ := own_shape hu
      exact ⟨Au, cu, hr, by rw [HNIL.out]; exact own_base hu (Nat.le_trans HR.out.below.size hW.size), hW.trans (hb.mono hW.size)⟩)
    have hmi : ¬ (c : Int) < ts.length := by omega
    have hmd : decide ((c : Int) < ts.length) = false := decide_eq_false hmi
    go_enter Tryd.func105, Tryd.ntmps105
    go_wp2_with fail
    go_region_held3 (fun W => W.cell? ⟨H, 0, none⟩ = some (.slice (some ⟨b, o, none⟩) ts.length c) ∧ W.cell? ⟨H, 1, none⟩ = some (.int .i64 c) ∧ Below w.heap.size w W)
      (first | exact ⟨c0, c1, Below.refl _ _⟩ | exact ⟨c0, c1, (Below.refl _ _).drew⟩ | (go_split_ands; exact ⟨by assumption, by assumption, by assumption⟩) | go_keep)
      (first | (go_at_call 49; go_split_ands; refine (HPE.out _ (Below.refl _ _).drew).mono ?_; rintro e w2 ⟨rfl, hb2⟩; have hbb : Below w.heap.size w w2 := (Below.refl _ _).drew.trans hb2; obtain ⟨r0, r1, r3, r5, y1, y5⟩ := HUP.out w2 hbb))
    have HB2 := Lib.hid hbb
    clear c0 c1
    go_wp2_with fail
    go_quiet (fail)
    go_wp2_with fail
    go_region_law (first | (go_simp; go_at_call 50; refine (HCM.out _ (by first | exact HB2.out | exact HB2.out.drew | exact bdrew HB2.out | exact (bdrew HB2.out).drew | exact bdrew (bdrew HB2.out) | exact bdrew HB2.out.drew)).mono ?_; rintro r w3 ⟨Au, cu, rfl, hu, hb3⟩; obtain ⟨x1, x2, v1, v2⟩ := HG1.out w3 hb3; obtain ⟨k0, k1, k3, k5, y1, y5⟩ := HUP.out w3 hb3))
    all_goals
      have KB3 := Lib.hid (((HBK.out.next hb3).far (p := ⟨gp, q0.length * 3 + 1, none⟩) hne2 (.bool true)).far (p := ⟨gp, q0.length * 3 + 2, none⟩) hne2 (.slice Au 0 cu))
      have KR3 := Lib.hid ((HR.out.next hb3).dflt hu)
      clear hu hb3 hiE hEc hEl hib hi hc hfew hcm hmw hmb hmc hcapm hql
      go_wp2_with fail
      go_quiet (fail)
      go_wp2_with fail
      go_ret
      refine ⟨rfl, .slice (some ⟨gp, 0, none⟩) (q0.length + 1) cap, q0 ++ [(⟨q.1.name, true, (ts.drop c).take e⟩, .slice Au 0 cu)], ?_, ?_⟩
      · exact Blk.drewN (HBlk.set1 KB3.out c _ rfl) _
      · exact (KR3.out.set 1 _).drewN _
  · have HCL := Lib.hid (fun W (hW : Below w.heap.size w W) => clone_some ⟨b, o + i * 6, none⟩ (E - i) (c - i) (cellsOf ((ts.drop i).take e)) W (by omega) (by rw [cellsOf_len, HPL.out, HEi.out]) (fun q u hq => by
      have hadd : (⟨b, o + i * 6, none⟩ : Addr).add q = ⟨b, o + (i * 6 + q), none⟩ := by unfold Addr.add; split <;> simp_all [Nat.add_assoc]
      rw [hadd]
      exact HCELL.out _ _ (HSEG.out q u hq) W hW) (cellsOf_one _))
    have HCM : Hid (∀ W, Below w.heap.size w W → Calls Tryd.prog 50 #[.slice (some ⟨b, o + i * 6, none⟩) (E - i) (c - i)] W fun r w' => ∃ Au cu, r = .returned (.slice Au (E - i) cu) ∧ w'.ownsRow w0.heap.size 56 6 (.slice Au (E - i) cu) ((ts.drop i).take e).length (cellsOf ((ts.drop i).take e)) ∧ Below w.heap.size w w') := Lib.hid (fun W hW => (HCL.out W hW).mono fun r w' ⟨⟨u, hr, hu⟩, hb⟩ => by
      obtain ⟨Au, cu, rfl⟩ := own_shape hu
      exact ⟨Au, cu, hr, by rw [show ((ts.drop i).take e).length = E - i from HPL.out.trans HEi.out.symm]; exact own_base hu (Nat.le_trans HR.out.below.size hW.size), hW.trans (hb.mono hW.size)⟩)
    by_cases hmore : E < ts.length
    · rw [if_pos hmore]
      have hmi : (E : Int) < ts.length := by omega
      have hmd : decide ((E : Int) < ts.length) = true := decide_eq_true hmi
      go_enter Tryd.func105, Tryd.ntmps105
      go_wp2_with fail
      go_region_held3 (fun W => W.cell? ⟨H, 0, none⟩ = some (.slice (some ⟨b, o, none⟩) ts.length c) ∧ W.cell? ⟨H, 1, none⟩ = some (.int .i64 i) ∧ Below w.heap.size w W)
        (first | exact ⟨c0, c1, Below.refl _ _⟩ | exact ⟨c0, c1, (Below.refl _ _).drew⟩ | (go_split_ands; exact ⟨by assumption, by assumption, by assumption⟩) | go_keep)
        (first | (go_at_call 49; go_split_ands; refine (HPE.out _ (Below.refl _ _).drew).mono ?_; rintro e w2 ⟨rfl, hb2⟩; have hbb : Below w.heap.size w w2 := (Below.refl _ _).drew.trans hb2; obtain ⟨r0, r1, r3, r5, y1, y5⟩ := HUP.out w2 hbb))
      have HB2 := Lib.hid hbb
      clear c0 c1
      go_wp2_with fail
      go_quiet (fail)
      go_wp2_with fail
      go_region_law (first | (go_simp; go_at_call 50; refine (HCM.out _ (by first | exact HB2.out | exact HB2.out.drew | exact bdrew HB2.out | exact (bdrew HB2.out).drew | exact bdrew (bdrew HB2.out) | exact bdrew HB2.out.drew)).mono ?_; rintro r w3 ⟨Au, cu, rfl, hu, hb3⟩; obtain ⟨x1, x2, v1, v2⟩ := HG1.out w3 hb3; obtain ⟨k0, k1, k3, k5, y1, y5⟩ := HUP.out w3 hb3))
      all_goals
        have KB3 := Lib.hid (((HBK.out.next hb3).far (p := ⟨gp, q0.length * 3 + 1, none⟩) hne2 (.bool true)).far (p := ⟨gp, q0.length * 3 + 2, none⟩) hne2 (.slice Au (E - i) cu))
        have KR3 := Lib.hid ((HR.out.next hb3).dflt hu)
        clear hu hb3
        go_wp2_with fail
        go_quiet (fail)
        go_wp2_with fail
        go_ret
        refine ⟨rfl, .slice (some ⟨gp, 0, none⟩) (q0.length + 1) cap, q0 ++ [(⟨q.1.name, true, (ts.drop i).take e⟩, .slice Au (E - i) cu)], ?_, ?_⟩
        · exact Blk.drewN ((HBlk.set1 KB3.out E _ rfl).set5 _) _
        · exact ((KR3.out.set 1 _).set 5 _).drewN _
    · rw [if_neg hmore]
      have hmi : ¬ (E : Int) < ts.length := by omega
      have hmd : decide ((E : Int) < ts.length) = false := decide_eq_false hmi
      go_enter Tryd.func105, Tryd.ntmps105
      go_wp2_with fail
      go_region_held3 (fun W => W.cell? ⟨H, 0, none⟩ = some (.slice (some ⟨b, o, none⟩) ts.length c) ∧ W.cell? ⟨H, 1, none⟩ = some (.int .i64 i) ∧ Below w.heap.size w W)
        (first | exact ⟨c0, c1, Below.refl _ _⟩ | exact ⟨c0, c1, (Below.refl _ _).drew⟩ | (go_split_ands; exact ⟨by assumption, by assumption, by assumption⟩) | go_keep)
        (first | (go_at_call 49; go_split_ands; refine (HPE.out _ (Below.refl _ _).drew).mono ?_; rintro e w2 ⟨rfl, hb2⟩; have hbb : Below w.heap.size w w2 := (Below.refl _ _).drew.trans hb2; obtain ⟨r0, r1, r3, r5, y1, y5⟩ := HUP.out w2 hbb))
      have HB2 := Lib.hid hbb
      clear c0 c1
      go_wp2_with fail
      go_quiet (fail)
      go_wp2_with fail
      go_region_law (first | (go_simp; go_at_call 50; refine (HCM.out _ (by first | exact HB2.out | exact HB2.out.drew | exact bdrew HB2.out | exact (bdrew HB2.out).drew | exact bdrew (bdrew HB2.out) | exact bdrew HB2.out.drew)).mono ?_; rintro r w3 ⟨Au, cu, rfl, hu, hb3⟩; obtain ⟨x1, x2, v1, v2⟩ := HG1.out w3 hb3; obtain ⟨k0, k1, k3, k5, y1, y5⟩ := HUP.out w3 hb3))
      all_goals
        have KB3 := Lib.hid (((HBK.out.next hb3).far (p := ⟨gp, q0.length * 3 + 1, none⟩) hne2 (.bool true)).far (p := ⟨gp, q0.length * 3 + 2, none⟩) hne2 (.slice Au (E - i) cu))
        have KR3 := Lib.hid ((HR.out.next hb3).dflt hu)
        clear hu hb3
        go_wp2_with fail
        go_quiet (fail)
        go_wp2_with fail
        go_ret
        refine ⟨rfl, .slice (some ⟨gp, 0, none⟩) (q0.length + 1) cap, q0 ++ [(⟨q.1.name, true, (ts.drop i).take e⟩, .slice Au (E - i) cu)], ?_, ?_⟩
        · exact Blk.drewN (HBlk.set1 KB3.out E _ rfl) _
        · exact (KR3.out.set 1 _).drewN _
end Go.Proofs.YtbhfblogjlpnlabDoor
