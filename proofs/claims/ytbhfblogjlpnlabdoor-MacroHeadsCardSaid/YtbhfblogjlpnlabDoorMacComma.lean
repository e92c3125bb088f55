/-
  The contracts of the reference's mark and Comma. Conditions: the tokens' cells lie in the memory; there are at most 100000 of them.
-/
import Derived.Test.YtbhfblogjlpnlabDoorMacTok
namespace Go.Proofs.YtbhfblogjlpnlabDoor
open Go.RowKit

theorem isM_ne {t : Tk6} {a b : ByteArray} (hab : a.toList ≠ b.toList) (h : t.isM a = true) : t.isM b = false := by
  unfold Tk6.isM at h ⊢
  rw [Bool.and_eq_true] at h
  rw [h.1, Bool.true_and, beq_eq_false_iff_ne]
  intro e
  exact hab ((eq_of_beq h.2).symm.trans e)

set_option maxRecDepth 100000 in
set_option maxHeartbeats 1000000 in
theorem rmark_is (t : Tk6) (s : ByteArray) (w : World) : Calls Tryd.prog 45 #[.agg #[.int .i64 t.kind, .int .i64 t.line, .int .i64 t.col, .string t.text, .int .u32 t.num, .int .i64 t.spare], .string s] w fun e w' => e = .returned (.bool (t.isM s)) ∧ Below w.heap.size w w' := by
  go_enter Tryd.func45, Tryd.ntmps45
  have HBA : Hid (∀ o, Below w.heap.size w (w.alloc o)) := Lib.hid (fun o => (Below.refl _ _).alloc (Nat.le_refl _) o)
  by_cases hk : t.kind = 7
  · have k1 : (t.kind == 7) = true := by rw [hk]; rfl
    have hr : t.isM s = (t.text.toList == s.toList) := by unfold Tk6.isM; rw [k1, Bool.true_and]
    clear hk
    go_wp2_with fail
    go_ret
    exact ⟨by rw [hr]; rfl, HBA.out _⟩
  · have k1 : (t.kind == 7) = false := beq_eq_false_iff_ne.2 hk
    have hr : t.isM s = false := by unfold Tk6.isM; rw [k1, Bool.false_and]
    clear hk
    go_wp2_with fail
    go_ret
    exact ⟨by rw [hr]; rfl, HBA.out _⟩

set_option maxRecDepth 100000 in
set_option maxHeartbeats 4000000 in
theorem comma_is (ts : List Tk6) (v : Value) (at_ : Nat) (w : World) (hv : Toks w v ts) (hat : at_ ≤ ts.length) (hn : ts.length ≤ 100000) : Calls Tryd.prog 46 #[v, .int .i64 at_] w fun e w' => e = .returned (.int .i64 ((at_ + partEnd Tk6.mk3 0 (ts.drop at_) : Nat) : Int)) ∧ Below w.heap.size w w' := by
  obtain ⟨A, c, rfl, hc, hcm, hcell⟩ := hv.form
  have HCELL := Lib.hid hcell
  clear hv hcell
  go_enter Tryd.func46, Tryd.ntmps46
  go_wp2_with fail
  go_loopw [5, 6] (fun o i wr => ∃ (k n : Nat), k ≤ ts.length ∧ n ≤ k ∧ o = .int .i64 n ∧ i = .int .i64 k ∧ Hid (at_ + partEnd Tk6.mk3 0 (ts.drop at_) = k + partEnd Tk6.mk3 n (ts.drop k)) ∧ Hid (Below w.heap.size w wr)) (fun _ i _ => ts.length - (intOf i).toNat)
  case atStart => exact ⟨at_, 0, hat, Nat.zero_le _, rfl, rfl, Lib.hid rfl, Lib.hid (Below.refl _ _)⟩
  case round =>
    obtain ⟨k, n, hk, hnk, rfl, rfl, HP, HB⟩ := hrel
    by_cases hlt : k < ts.length
    · have hki : (k : Int) < ts.length := by omega
      have hkc : (k : Int) < c := by omega
      have hni : (n : Int) ≤ 100000 := by omega
      obtain ⟨t, ht⟩ : ∃ t, ts[k]? = some t := ⟨_, List.getElem?_eq_getElem hlt⟩
      obtain ⟨b, o, rfl, hcs⟩ := HCELL.out k t ht
      have HC := Lib.hid (fun W (hW : Below wr.heap.size wr W) => hcs W (HB.out.trans (hW.mono HB.out.size)))
      have hdr : ts.drop k = t :: ts.drop (k + 1) := by
        rw [List.drop_eq_getElem_cons hlt]
        rw [List.getElem?_eq_getElem hlt] at ht
        injection ht with ht
        rw [ht]
      have hstep := partEnd_cons Tk6.mk3 n t (ts.drop (k + 1))
      rw [← hdr] at hstep
      obtain ⟨e0, e1, e2, e3, e4, e5⟩ := HC.out wr (Below.refl _ _)
      have HST := Lib.hid hstep
      clear hcs hdr hstep ht
      obtain ⟨wo, rfl⟩ : ∃ wo : World, wo = wr := ⟨_, rfl⟩
      go_wp2_with fail
      refine (rmark_is t ⟨#[44]⟩ _).mono ?_
      rintro e w1 ⟨rfl, hb1⟩
      have HB1 := Lib.hid hb1
      obtain ⟨a0, a1, a2, a3, a4, a5⟩ := HC.out w1 hb1
      clear hb1 e0 e1 e2 e3 e4 e5
      by_cases hret : t.isM ⟨#[44]⟩ = true ∧ n = 0
      · obtain ⟨m3, rfl⟩ := hret
        have HE : Hid (at_ + partEnd Tk6.mk3 0 (ts.drop at_) = k) := Lib.hid (by
          have h1 : t.isM ⟨#[40]⟩ = false := isM_ne (by decide +kernel) m3
          have h2 : t.isM ⟨#[41]⟩ = false := isM_ne (by decide +kernel) m3
          have hm : t.mk3 = 3 := by unfold Tk6.mk3; rw [if_neg (by rw [h1]; decide), if_neg (by rw [h2]; decide), if_pos m3]
          rw [HP.out, HST.out, hm, if_neg (by decide), if_neg (by decide), if_pos ⟨rfl, rfl⟩]
          omega)
        have HBN := Lib.hid (HB.out.trans (HB1.out.mono HB.out.size))
        go_wp2_with fail
        go_ret
        exact ⟨by rw [HE.out]; rfl, HBN.out⟩
      · have HRET := Lib.hid hret
        clear hret
        have hcase : t.isM ⟨#[44]⟩ = false ∨ (t.isM ⟨#[44]⟩ = true ∧ ((n : Int) == 0) = false) := by
          by_cases m3 : t.isM ⟨#[44]⟩ = true
          · exact .inr ⟨m3, beq_eq_false_iff_ne.2 (fun h => HRET.out ⟨m3, by omega⟩)⟩
          · exact .inl (by simpa using m3)
        rcases hcase with m3f | ⟨m3, hz⟩
        · go_wp2_with fail
          refine (rmark_is t ⟨#[40]⟩ _).mono ?_
          rintro e w2 ⟨rfl, hb2⟩
          have HB2 := Lib.hid (HB1.out.trans (hb2.mono HB1.out.size))
          obtain ⟨d0, d1, d2, d3, d4, d5⟩ := HC.out w2 HB2.out
          clear hb2 a0 a1 a2 a3 a4 a5
          by_cases m1 : t.isM ⟨#[40]⟩ = true
          · have m2 : t.isM ⟨#[41]⟩ = false := isM_ne (by decide +kernel) m1
            have HN : Hid (at_ + partEnd Tk6.mk3 0 (ts.drop at_) = k + 1 + partEnd Tk6.mk3 (n + 1) (ts.drop (k + 1))) := Lib.hid (by
              rw [HP.out, HST.out, if_pos (by unfold Tk6.mk3; rw [if_pos m1])]
              omega)
            go_wp2_with fail
            refine (rmark_is t ⟨#[41]⟩ _).mono ?_
            rintro e w3 ⟨rfl, hb3⟩
            have HBN := Lib.hid (HB.out.trans ((HB2.out.trans (hb3.mono HB2.out.size)).mono HB.out.size))
            clear hb3 d0 d1 d2 d3 d4 d5
            go_wp2_with fail
            go_roundw
            case rel => exact ⟨k + 1, n + 1, by omega, by omega, by go_num, by go_num, HN, HBN⟩
            case measure => simp [intOf]; omega
          · have m1f : t.isM ⟨#[40]⟩ = false := by simpa using m1
            clear m1
            go_wp2_with fail
            refine (rmark_is t ⟨#[41]⟩ _).mono ?_
            rintro e w3 ⟨rfl, hb3⟩
            have HBN := Lib.hid (HB.out.trans ((HB2.out.trans (hb3.mono HB2.out.size)).mono HB.out.size))
            clear hb3 d0 d1 d2 d3 d4 d5
            by_cases m2 : t.isM ⟨#[41]⟩ = true
            · have HN : Hid (at_ + partEnd Tk6.mk3 0 (ts.drop at_) = k + 1 + partEnd Tk6.mk3 (n - 1) (ts.drop (k + 1))) := Lib.hid (by
                have hm : t.mk3 = 2 := by unfold Tk6.mk3; rw [if_neg (by rw [m1f]; decide), if_pos m2]
                rw [HP.out, HST.out, hm, if_neg (by decide), if_pos rfl]
                omega)
              by_cases hn0 : 0 < n
              · have z0 : (0 : Int) < n := by omega
                have z1 : decide ((0 : Int) < n) = true := decide_eq_true z0
                go_wp2_with fail
                go_roundw
                case rel => exact ⟨k + 1, n - 1, by omega, by omega, by congr 1; omega, by go_num, HN, HBN⟩
                case measure => simp [intOf]; omega
              · have z0 : ¬ (0 : Int) < n := by omega
                have z1 : decide ((0 : Int) < n) = false := decide_eq_false z0
                go_wp2_with fail
                go_roundw
                case rel => exact ⟨k + 1, n - 1, by omega, by omega, by congr 1; omega, by go_num, HN, HBN⟩
                case measure => simp [intOf]; omega
            · have m2f : t.isM ⟨#[41]⟩ = false := by simpa using m2
              clear m2
              have HN : Hid (at_ + partEnd Tk6.mk3 0 (ts.drop at_) = k + 1 + partEnd Tk6.mk3 n (ts.drop (k + 1))) := Lib.hid (by
                have hm : t.mk3 = if t.isM ⟨#[44]⟩ = true then 3 else 0 := by unfold Tk6.mk3; rw [if_neg (by rw [m1f]; decide), if_neg (by rw [m2f]; decide)]
                rw [HP.out, HST.out, hm]
                by_cases g3 : t.isM ⟨#[44]⟩ = true
                · rw [if_pos g3, if_neg (by decide), if_neg (by decide), if_neg (fun g => HRET.out ⟨g3, g.2⟩)]
                  omega
                · rw [if_neg g3, if_neg (by decide), if_neg (by decide), if_neg (fun g => absurd g.1 (by decide))]
                  omega)
              go_wp2_with fail
              go_roundw
              case rel => exact ⟨k + 1, n, by omega, by omega, rfl, by go_num, HN, HBN⟩
              case measure => simp [intOf]; omega
        · go_wp2_with fail
          refine (rmark_is t ⟨#[40]⟩ _).mono ?_
          rintro e w2 ⟨rfl, hb2⟩
          have HB2 := Lib.hid (HB1.out.trans (hb2.mono HB1.out.size))
          obtain ⟨d0, d1, d2, d3, d4, d5⟩ := HC.out w2 HB2.out
          clear hb2 a0 a1 a2 a3 a4 a5
          by_cases m1 : t.isM ⟨#[40]⟩ = true
          · have m2 : t.isM ⟨#[41]⟩ = false := isM_ne (by decide +kernel) m1
            have HN : Hid (at_ + partEnd Tk6.mk3 0 (ts.drop at_) = k + 1 + partEnd Tk6.mk3 (n + 1) (ts.drop (k + 1))) := Lib.hid (by
              rw [HP.out, HST.out, if_pos (by unfold Tk6.mk3; rw [if_pos m1])]
              omega)
            go_wp2_with fail
            refine (rmark_is t ⟨#[41]⟩ _).mono ?_
            rintro e w3 ⟨rfl, hb3⟩
            have HBN := Lib.hid (HB.out.trans ((HB2.out.trans (hb3.mono HB2.out.size)).mono HB.out.size))
            clear hb3 d0 d1 d2 d3 d4 d5
            go_wp2_with fail
            go_roundw
            case rel => exact ⟨k + 1, n + 1, by omega, by omega, by go_num, by go_num, HN, HBN⟩
            case measure => simp [intOf]; omega
          · have m1f : t.isM ⟨#[40]⟩ = false := by simpa using m1
            clear m1
            go_wp2_with fail
            refine (rmark_is t ⟨#[41]⟩ _).mono ?_
            rintro e w3 ⟨rfl, hb3⟩
            have HBN := Lib.hid (HB.out.trans ((HB2.out.trans (hb3.mono HB2.out.size)).mono HB.out.size))
            clear hb3 d0 d1 d2 d3 d4 d5
            by_cases m2 : t.isM ⟨#[41]⟩ = true
            · have HN : Hid (at_ + partEnd Tk6.mk3 0 (ts.drop at_) = k + 1 + partEnd Tk6.mk3 (n - 1) (ts.drop (k + 1))) := Lib.hid (by
                have hm : t.mk3 = 2 := by unfold Tk6.mk3; rw [if_neg (by rw [m1f]; decide), if_pos m2]
                rw [HP.out, HST.out, hm, if_neg (by decide), if_pos rfl]
                omega)
              by_cases hn0 : 0 < n
              · have z0 : (0 : Int) < n := by omega
                have z1 : decide ((0 : Int) < n) = true := decide_eq_true z0
                go_wp2_with fail
                go_roundw
                case rel => exact ⟨k + 1, n - 1, by omega, by omega, by congr 1; omega, by go_num, HN, HBN⟩
                case measure => simp [intOf]; omega
              · have z0 : ¬ (0 : Int) < n := by omega
                have z1 : decide ((0 : Int) < n) = false := decide_eq_false z0
                go_wp2_with fail
                go_roundw
                case rel => exact ⟨k + 1, n - 1, by omega, by omega, by congr 1; omega, by go_num, HN, HBN⟩
                case measure => simp [intOf]; omega
            · have m2f : t.isM ⟨#[41]⟩ = false := by simpa using m2
              clear m2
              have HN : Hid (at_ + partEnd Tk6.mk3 0 (ts.drop at_) = k + 1 + partEnd Tk6.mk3 n (ts.drop (k + 1))) := Lib.hid (by
                have hm : t.mk3 = if t.isM ⟨#[44]⟩ = true then 3 else 0 := by unfold Tk6.mk3; rw [if_neg (by rw [m1f]; decide), if_neg (by rw [m2f]; decide)]
                rw [HP.out, HST.out, hm]
                by_cases g3 : t.isM ⟨#[44]⟩ = true
                · rw [if_pos g3, if_neg (by decide), if_neg (by decide), if_neg (fun g => HRET.out ⟨g3, g.2⟩)]
                  omega
                · rw [if_neg g3, if_neg (by decide), if_neg (by decide), if_neg (fun g => absurd g.1 (by decide))]
                  omega)
              go_wp2_with fail
              go_roundw
              case rel => exact ⟨k + 1, n, by omega, by omega, rfl, by go_num, HN, HBN⟩
              case measure => simp [intOf]; omega
    · obtain rfl : k = ts.length := by omega
      have HE : Hid (at_ + partEnd Tk6.mk3 0 (ts.drop at_) = ts.length) := Lib.hid (by rw [HP.out, List.drop_length]; rfl)
      go_wp2_with fail
      go_ret
      exact ⟨by rw [HE.out]; rfl, HB.out⟩
end Go.Proofs.YtbhfblogjlpnlabDoor
