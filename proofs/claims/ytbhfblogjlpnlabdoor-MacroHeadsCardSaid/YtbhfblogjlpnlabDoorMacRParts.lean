/-
  The contract of the reference's Parts. Conditions: the tokens' cells lie in the memory; there are at most 100000 of them.
-/
import Derived.Test.YtbhfblogjlpnlabDoorMacComma
import Derived.Test.YtbhfblogjlpnlabDoorMacParts
namespace Go.Proofs.YtbhfblogjlpnlabDoor
open Go.RowKit

set_option maxRecDepth 100000 in
set_option maxHeartbeats 4000000 in
theorem rparts_some (ts : List Tk6) (b o c : Nat) (pss : List (List Tk6)) (w : World) (h0 : 0 < ts.length) (hn : ts.length ≤ 100000) (hc : ts.length ≤ c) (hcm : c ≤ maxLen) (hv : Toks w (.slice (some ⟨b, o, none⟩) ts.length c) ts) (hcell : ∀ q u, (cellsOf ts)[q]? = some u → w.cell? ⟨b, o + q, none⟩ = some u) (hp : PartsR Tk6.mk3 ts pss) :
    Calls Tryd.prog 23 #[.slice (some ⟨b, o, none⟩) ts.length c] w fun e w' => (∃ v us, e = .returned v ∧ w'.ownsRow w.heap.size 30 1 v pss.length us ∧ RowsAt w' w.heap.size us pss) ∧ Below w.heap.size w w' := by
  obtain ⟨i1, hi, hz0, hz1, hz2⟩ := info_parts Tryd.infoLine
  obtain ⟨i0, ti, tz0, tz1, tz2⟩ := info_parts Tryd.infoTok
  have h0b : ((ts.length : Int) == 0) = false := beq_eq_false_iff_ne.2 (by omega)
  have HT := Lib.hid hv
  have HC := Lib.hid hcell
  have HP := Lib.hid hp
  clear hv hcell hp
  go_enter Tryd.func23, Tryd.ntmps23
  go_wp2_with fail
  go_loopw [3, 4] (fun v i wr => ∃ (k : Nat) (done rest : List (List Tk6)) (us : List Value), i = .int .i64 k ∧ k ≤ ts.length ∧ Hid (QInv w pss ts k v wr done rest us)) (fun _ i _ => ts.length + 1 - (intOf i).toNat)
  case atStart => exact ⟨0, [], pss, [], rfl, by omega, Lib.hid ⟨rfl, .inr ⟨Nat.zero_le _, by rw [List.drop_zero]; exact HP.out⟩, Nat.le_refl _, World.ownsRow_nil _ _ _ _, ⟨rfl, fun i ps h => by simp at h⟩, Below.refl _ _⟩⟩
  case round =>
    obtain ⟨k, done, rest, us, rfl, hkl, HI⟩ := hrel
    have hsrc := HI.out.src.resolve_left (fun h => by omega)
    obtain ⟨rest', rfl, hnext⟩ := parts_next hsrc.2
    have hle := partEnd_le Tk6.mk3 0 (ts.drop k)
    have HPE := Lib.hid (fun W (hW : Below w.heap.size w W) => comma_is ts (.slice (some ⟨b, o, none⟩) ts.length c) k W (HT.out.below hW) hkl hn)
    generalize partEnd Tk6.mk3 0 (ts.drop k) = e at *
    rw [List.length_drop] at hle hnext
    obtain ⟨E, hE⟩ : ∃ E, k + e = E := ⟨_, rfl⟩
    have hseg := fun q u h => HC.out (k * 6 + q) u (cellsOf_seg ts k e (by omega) q u h)
    have HSEG := Lib.hid hseg
    have hpl : ((ts.drop k).take e).length = e := by rw [List.length_take, List.length_drop]; omega
    have hs : (E + 1 = ts.length + 1 ∧ rest' = []) ∨ (E + 1 ≤ ts.length ∧ PartsR Tk6.mk3 (ts.drop (E + 1)) rest') := by
      rcases hnext with ⟨h1, h2⟩ | ⟨h1, h2⟩
      · exact .inl ⟨by omega, h2⟩
      · rw [List.drop_drop, show k + (e + 1) = E + 1 by omega] at h2
        exact .inr ⟨by omega, h2⟩
    have HS := Lib.hid hs
    have HPL := Lib.hid hpl
    rw [hE] at HPE
    have hkE : (k : Int) ≤ E := by omega
    have hEc : (E : Int) ≤ c := by omega
    have hEl : (E : Int) ≤ ts.length := by omega
    have HkE : Hid (k ≤ E) := Lib.hid (by omega)
    have HEe : Hid (E - k = e) := Lib.hid (by omega)
    have hdl : done.length ≤ 100001 := by have := HI.out.few; omega
    clear hnext hsrc hseg hs hpl hle hE
    go_wp2_with fail
    refine (HPE.out _ HI.out.below).mono ?_
    rintro e1 w1 ⟨rfl, hb1⟩
    have HB1 := Lib.hid hb1
    clear hb1
    by_cases hck : c = k
    · have hEk : Hid (E = k) := Lib.hid (by have := HkE.out; omega)
      have HNIL : Hid ((ts.drop k).take e = []) := Lib.hid (List.eq_nil_of_length_eq_zero (by rw [HPL.out, ← HEe.out, hEk.out]; omega))
      subst hck
      obtain rfl : E = c := hEk.out
      by_cases hEn : E = ts.length
      · have hEn1 : (ts.length : Int) ≤ E := by omega
        have hr : rest' = [] := by
          rcases HS.out with ⟨_, h⟩ | ⟨h, _⟩
          · exact h
          · omega
        have HR := Lib.hid hr
        clear hEn hr
        go_wp2_with (first
          | (at_builtin; refine wpList_append_own _ rfl _ _ 30 rfl w1.heap.size 56 i0 (.agg #[.int .i64 0, .int .i64 0, .int .i64 0, .string ByteArray.empty, .int .u32 0, .int .i64 0]) 6 56 Tryd.underlying30 ti tz0 tz1 tz2 rfl (by decide) _ 0 [] rfl (World.ownsRow_lit w1 #[] 0 (Nat.le_refl _) (Nat.zero_le _) rfl) ⟨b, o, none⟩ 0 0 [] rfl rfl (fun q u hq => by simp at hq) (fun u hu => by cases hu) (by unfold maxLen; omega) (by omega) (by simp) ?_; intro u2 w2 hu hgrow2 _
             have hb2 : Below w1.heap.size w1 w2 := Below.grown ((Below.refl _ _).alloc (Nat.le_refl _) _) hgrow2 (by simp) (fun g hg => by cases hg; exact Nat.le_refl _)
             have HB2 := Lib.hid (HB1.out.trans (hb2.mono HB1.out.size))
             rw [Nat.zero_add, List.nil_append] at hu
             obtain ⟨Au, cu, rfl⟩ := own_shape hu
             have HU := Lib.hid (show w2.ownsRow wr.heap.size 56 6 (.slice Au 0 cu) ((ts.drop E).take e).length (cellsOf ((ts.drop E).take e)) from by rw [HNIL.out]; exact own_base hu HB1.out.size)
             have HC2 := Lib.hid (fun (w1 : World) => cells_new w1 #[.slice Au 0 cu] 30 w1.heap.size rfl)
             clear hu hgrow2 hb2)
          | (at_builtin; refine wpList_append_own _ rfl _ _ 23 rfl w.heap.size 30 i1 (.slice none 0 0) 1 24 Tryd.underlying23 hi hz0 hz1 hz2 rfl (by decide) _ _ _ rfl ((own_below HI.out.own HB2.out).alloc _) ⟨w2.heap.size, 0, none⟩ 1 1 [.slice Au 0 cu] rfl rfl (HC2.out w2) (by intro x hx; simp at hx; subst hx; rfl) (by unfold maxLen; omega) (by omega) (by have := HI.out.below.size; have := HB2.out.size; simp; omega) ?_; intro v' w9 hown' hgrow _; have RR := q_step HI.out HB2.out HU.out (Nat.le_refl _) hown' hgrow HS.out; clear hown' hgrow))
        have hd : done ++ [(ts.drop E).take e] = pss := by have := RR.eq; rwa [HR.out, List.append_nil] at this
        have HOUT : Hid (w9.ownsRow w.heap.size 30 1 v' pss.length (us ++ [.slice Au 0 cu]) ∧ RowsAt w9 w.heap.size (us ++ [.slice Au 0 cu]) pss) := Lib.hid (by rw [← hd]; exact ⟨RR.own, RR.rows⟩)
        have HBW := Lib.hid RR.below
        clear hd RR
        go_ret
        exact ⟨⟨v', rfl, _, HOUT.out.1, HOUT.out.2⟩, HBW.out⟩
      · exfalso
        omega
    · have HCL : Hid (∀ q u, (cellsOf ((ts.drop k).take e))[q]? = some u → (w1.alloc (.cells #[] 56)).cell? ((⟨b, o + k * 6, none⟩ : Addr).add q) = some u) := Lib.hid (fun q u hq => by
        have hadd : (⟨b, o + k * 6, none⟩ : Addr).add q = ⟨b, o + (k * 6 + q), none⟩ := by unfold Addr.add; split <;> simp_all [Nat.add_assoc]
        have hw := HSEG.out q u hq
        rw [hadd]
        have hbb : Below w.heap.size w (w1.alloc (.cells #[] 56)) := (HI.out.below.trans (HB1.out.mono HI.out.below.size)).alloc (Nat.le_trans HI.out.below.size HB1.out.size) _
        exact (hbb.cell (p := ⟨b, o + (k * 6 + q), none⟩) (World.block_lt_of_cell? w _ hw)).trans hw)
      by_cases hEn : E = ts.length
      · have hEn1 : (ts.length : Int) ≤ E := by omega
        have hr : rest' = [] := by
          rcases HS.out with ⟨_, h⟩ | ⟨h, _⟩
          · exact h
          · omega
        have HR := Lib.hid hr
        clear hEn hr
        go_wp2_with (first
          | (at_builtin; refine wpList_append_own _ rfl _ _ 30 rfl w1.heap.size 56 i0 (.agg #[.int .i64 0, .int .i64 0, .int .i64 0, .string ByteArray.empty, .int .u32 0, .int .i64 0]) 6 56 Tryd.underlying30 ti tz0 tz1 tz2 rfl (by decide) _ 0 [] rfl (World.ownsRow_lit w1 #[] 0 (Nat.le_refl _) (Nat.zero_le _) rfl) ⟨b, o + k * 6, none⟩ (E - k) (c - k) (cellsOf ((ts.drop k).take e)) rfl (by rw [cellsOf_len, HPL.out, HEe.out]) HCL.out (cellsOf_one _) (by unfold maxLen; omega) (by omega) (by simp) ?_; intro u2 w2 hu hgrow2 _
             have hb2 : Below w1.heap.size w1 w2 := Below.grown ((Below.refl _ _).alloc (Nat.le_refl _) _) hgrow2 (by simp) (fun g hg => by cases hg; exact Nat.le_refl _)
             have HB2 := Lib.hid (HB1.out.trans (hb2.mono HB1.out.size))
             rw [Nat.zero_add, List.nil_append] at hu
             obtain ⟨Au, cu, rfl⟩ := own_shape hu
             have HU := Lib.hid (show w2.ownsRow wr.heap.size 56 6 (.slice Au (E - k) cu) ((ts.drop k).take e).length (cellsOf ((ts.drop k).take e)) from by rw [show ((ts.drop k).take e).length = E - k from HPL.out.trans HEe.out.symm]; exact own_base hu HB1.out.size)
             have HC2 := Lib.hid (fun (w1 : World) => cells_new w1 #[.slice Au (E - k) cu] 30 w1.heap.size rfl)
             clear hu hgrow2 hb2)
          | (at_builtin; refine wpList_append_own _ rfl _ _ 23 rfl w.heap.size 30 i1 (.slice none 0 0) 1 24 Tryd.underlying23 hi hz0 hz1 hz2 rfl (by decide) _ _ _ rfl ((own_below HI.out.own HB2.out).alloc _) ⟨w2.heap.size, 0, none⟩ 1 1 [.slice Au (E - k) cu] rfl rfl (HC2.out w2) (by intro x hx; simp at hx; subst hx; rfl) (by unfold maxLen; omega) (by omega) (by have := HI.out.below.size; have := HB2.out.size; simp; omega) ?_; intro v' w9 hown' hgrow _; have RR := q_step HI.out HB2.out HU.out HkE.out hown' hgrow HS.out; clear hown' hgrow))
        have hd : done ++ [(ts.drop k).take e] = pss := by have := RR.eq; rwa [HR.out, List.append_nil] at this
        have HOUT : Hid (w9.ownsRow w.heap.size 30 1 v' pss.length (us ++ [.slice Au (E - k) cu]) ∧ RowsAt w9 w.heap.size (us ++ [.slice Au (E - k) cu]) pss) := Lib.hid (by rw [← hd]; exact ⟨RR.own, RR.rows⟩)
        have HBW := Lib.hid RR.below
        clear hd RR
        go_ret
        exact ⟨⟨v', rfl, _, HOUT.out.1, HOUT.out.2⟩, HBW.out⟩
      · have hEn1 : ¬ (ts.length : Int) ≤ E := by omega
        have hEn2 : E + 1 ≤ ts.length := by omega
        clear hEn
        go_wp2_with (first
          | (at_builtin; refine wpList_append_own _ rfl _ _ 30 rfl w1.heap.size 56 i0 (.agg #[.int .i64 0, .int .i64 0, .int .i64 0, .string ByteArray.empty, .int .u32 0, .int .i64 0]) 6 56 Tryd.underlying30 ti tz0 tz1 tz2 rfl (by decide) _ 0 [] rfl (World.ownsRow_lit w1 #[] 0 (Nat.le_refl _) (Nat.zero_le _) rfl) ⟨b, o + k * 6, none⟩ (E - k) (c - k) (cellsOf ((ts.drop k).take e)) rfl (by rw [cellsOf_len, HPL.out, HEe.out]) HCL.out (cellsOf_one _) (by unfold maxLen; omega) (by omega) (by simp) ?_; intro u2 w2 hu hgrow2 _
             have hb2 : Below w1.heap.size w1 w2 := Below.grown ((Below.refl _ _).alloc (Nat.le_refl _) _) hgrow2 (by simp) (fun g hg => by cases hg; exact Nat.le_refl _)
             have HB2 := Lib.hid (HB1.out.trans (hb2.mono HB1.out.size))
             rw [Nat.zero_add, List.nil_append] at hu
             obtain ⟨Au, cu, rfl⟩ := own_shape hu
             have HU := Lib.hid (show w2.ownsRow wr.heap.size 56 6 (.slice Au (E - k) cu) ((ts.drop k).take e).length (cellsOf ((ts.drop k).take e)) from by rw [show ((ts.drop k).take e).length = E - k from HPL.out.trans HEe.out.symm]; exact own_base hu HB1.out.size)
             have HC2 := Lib.hid (fun (w1 : World) => cells_new w1 #[.slice Au (E - k) cu] 30 w1.heap.size rfl)
             clear hu hgrow2 hb2)
          | (at_builtin; refine wpList_append_own _ rfl _ _ 23 rfl w.heap.size 30 i1 (.slice none 0 0) 1 24 Tryd.underlying23 hi hz0 hz1 hz2 rfl (by decide) _ _ _ rfl ((own_below HI.out.own HB2.out).alloc _) ⟨w2.heap.size, 0, none⟩ 1 1 [.slice Au (E - k) cu] rfl rfl (HC2.out w2) (by intro x hx; simp at hx; subst hx; rfl) (by unfold maxLen; omega) (by omega) (by have := HI.out.below.size; have := HB2.out.size; simp; omega) ?_; intro v' w9 hown' hgrow _; have RR := q_step HI.out HB2.out HU.out HkE.out hown' hgrow HS.out; clear hown' hgrow))
        have HRR := Lib.hid RR
        clear RR
        go_roundw
        case rel => exact ⟨E + 1, _, _, _, by go_num, hEn2, HRR⟩
        case measure => simp [intOf]; omega
end Go.Proofs.YtbhfblogjlpnlabDoor
