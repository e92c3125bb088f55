/-
  The contract of the step behind of a macro's head. Conditions: as those of the steps; a token is left.
-/
import Derived.Test.YtbhfblogjlpnlabDoorMacStepP
namespace Go.Proofs.YtbhfblogjlpnlabDoor
open Go.RowKit

set_option maxRecDepth 100000 in
set_option maxHeartbeats 4000000 in
theorem behind_is (w0 : World) (ts : List Tk6) (vt vp : Value) (qs : List (HPar × Value)) (H : Nat) (s : HState) (w : World) (hg : Handle w0) (hn : ts.length ≤ 100000) (hi : s.at_ < ts.length) (hb : HBlk w H vt s.at_ s.name vp .nilFunc) (hv : Toks w0 vt ts) (hr : HRest w0 H s.ps vp qs w) :
    Calls Tryd.prog 87 #[.pointer (some ⟨H, 0, none⟩)] w (HOutE w0 ts vt H (behindStep ts s)) := by
  obtain ⟨i, n, ps⟩ := s
  simp only at hb hr hi
  have hgw := hg.below hr.below hg.pos
  have hvw := hv.below hr.below
  have HBAD := Lib.hid (fun W (hW : Below w.heap.size w W) => bad_is ts vt vp .nilFunc H i n W (hgw.below hW hgw.pos) (by omega) (hb.below hW hb.lt) (hvw.below hW))
  have HR := Lib.hid hr
  have HBK := Lib.hid hb
  have HBEL := Lib.hid hr.below
  obtain ⟨A, c, rfl, hc, hcm, hcell⟩ := hvw.form
  obtain ⟨t, ht⟩ : ∃ t, ts[i]? = some t := ⟨_, List.getElem?_eq_getElem hi⟩
  have hki : (i : Int) < ts.length := by omega
  have hkc : (i : Int) < c := by omega
  have hkb : (i : Int) ≤ 100000 := by omega
  obtain ⟨b, o, rfl, hcs⟩ := hcell i t ht
  have HC := Lib.hid hcs
  have hres : behindStep ts ⟨i, n, ps⟩ = if t.isM ⟨#[44]⟩ = true then .inl (some .param, ⟨i + 1, n, ps⟩) else if t.isM ⟨#[61]⟩ = true then .inl (some .value, ⟨i + 1, n, ps⟩) else .inr (i, 5) := by
    unfold behindStep
    simp only [ht]
  rw [hres]
  clear hb hv hr hcell hg hgw hvw hcs ht hres
  have e0 : w.cell? ⟨b, o + i * 6, none⟩ = some (.int .i64 t.kind) := (HC.out w (Below.refl _ _)).1
  have e1 : w.cell? ⟨b, o + i * 6 + 1, none⟩ = some (.int .i64 t.line) := (HC.out w (Below.refl _ _)).2.1
  have e2 : w.cell? ⟨b, o + i * 6 + 2, none⟩ = some (.int .i64 t.col) := (HC.out w (Below.refl _ _)).2.2.1
  have e3 : w.cell? ⟨b, o + i * 6 + 3, none⟩ = some (.string t.text) := (HC.out w (Below.refl _ _)).2.2.2.1
  have e4 : w.cell? ⟨b, o + i * 6 + 4, none⟩ = some (.int .u32 t.num) := (HC.out w (Below.refl _ _)).2.2.2.2.1
  have e5 : w.cell? ⟨b, o + i * 6 + 5, none⟩ = some (.int .i64 t.spare) := (HC.out w (Below.refl _ _)).2.2.2.2.2
  have c0 : w.cell? ⟨H, 0, none⟩ = some (.slice (some ⟨b, o, none⟩) ts.length c) := HBK.out.cell 0
  have c1 : w.cell? ⟨H, 1, none⟩ = some (.int .i64 i) := HBK.out.cell 1
  have hup : ∀ o, Below w.heap.size w (w.alloc o) := fun o => (Below.refl _ _).alloc (Nat.le_refl _) o
  have d0 : ∀ o', (w.alloc o').cell? ⟨H, 0, none⟩ = some (.slice (some ⟨b, o, none⟩) ts.length c) := fun o' => (HBK.out.below (hup o') HBK.out.lt).cell 0
  have d1 : ∀ o', (w.alloc o').cell? ⟨H, 1, none⟩ = some (.int .i64 i) := fun o' => (HBK.out.below (hup o') HBK.out.lt).cell 1
  have f0 := fun o' => (HC.out _ (hup o')).1
  have f1 := fun o' => (HC.out _ (hup o')).2.1
  have f2 := fun o' => (HC.out _ (hup o')).2.2.1
  have f3 := fun o' => (HC.out _ (hup o')).2.2.2.1
  have f4 := fun o' => (HC.out _ (hup o')).2.2.2.2.1
  have f5 := fun o' => (HC.out _ (hup o')).2.2.2.2.2
  clear hup
  by_cases m1 : t.isM ⟨#[44]⟩ = true
  · rw [if_pos m1]
    go_enter Tryd.func87, Tryd.ntmps87
    go_wp2_with fail
    go_region
    all_goals (try go_wp2_with fail)
    clear c0 c1 e0 e1 e2 e3 e4 e5 d0 d1 f0 f1 f2 f3 f4 f5
    obtain ⟨kb, kr, kB, kt, kne⟩ := tok_world HBK.out HR.out (Below.refl _ _) t
    have HM1 := Lib.hid (mark_is t ⟨#[44]⟩ ((w.alloc (.cells #[.int .i64 t.kind, .int .i64 t.line, .int .i64 t.col, .string t.text, .int .u32 t.num, .int .i64 t.spare] 56)).drew))
    generalize (w.alloc (.cells #[.int .i64 t.kind, .int .i64 t.line, .int .i64 t.col, .string t.text, .int .u32 t.num, .int .i64 t.spare] 56)).drew = wA at kb kr kB kt HM1 ⊢
    generalize w.heap.size = g at kt kne ⊢
    obtain ⟨s0, s1, s2, s3, s4, s5⟩ : wA.cell? ⟨g, 0, none⟩ = some (.int .i64 t.kind) ∧ wA.cell? ⟨g, 1, none⟩ = some (.int .i64 t.line) ∧ wA.cell? ⟨g, 2, none⟩ = some (.int .i64 t.col) ∧ wA.cell? ⟨g, 3, none⟩ = some (.string t.text) ∧ wA.cell? ⟨g, 4, none⟩ = some (.int .u32 t.num) ∧ wA.cell? ⟨g, 5, none⟩ = some (.int .i64 t.spare) := ⟨kt.cell 0, kt.cell 1, kt.cell 2, kt.cell 3, kt.cell 4, kt.cell 5⟩
    have KB := Lib.hid kb
    have KR := Lib.hid kr
    have KW := Lib.hid kB
    have KT := Lib.hid kt
    clear kb kr kB kt kne
    go_wp2_with fail
    refine HM1.out.mono ?_
    rintro e w2 ⟨rfl, hb2⟩
    rw [m1]
    have KB2 := Lib.hid (KB.out.next hb2)
    have KR2 := Lib.hid (KR.out.next hb2)
    have KW2 := Lib.hid (KW.out.trans (hb2.mono KW.out.size))
    have KT2 := Lib.hid (KT.out.below hb2 KT.out.lt)
    clear hb2 s0 s1 s2 s3 s4 s5
    have k1 : w2.cell? ⟨H, 1, none⟩ = some (.int .i64 i) := KB2.out.cell 1
    have k5 : w2.cell? ⟨H, 5, none⟩ = some .nilFunc := KB2.out.cell 5
    have y1 := Blk.frozen KB2.out 1
    have y5 := Blk.frozen KB2.out 5
    go_wp2_with fail
    go_ret
    exact ⟨rfl, vp, qs, ((KB2.out.set5 _).set1 (i + 1) _ rfl), ((KR2.out.set 5 _).set 1 _)⟩
  · rw [if_neg m1]
    replace m1 : t.isM ⟨#[44]⟩ = false := (Bool.not_eq_true _).mp m1
    by_cases m2 : t.isM ⟨#[61]⟩ = true
    · rw [if_pos m2]
      go_enter Tryd.func87, Tryd.ntmps87
      go_wp2_with fail
      go_region
      all_goals (try go_wp2_with fail)
      clear c0 c1 e0 e1 e2 e3 e4 e5 d0 d1 f0 f1 f2 f3 f4 f5
      obtain ⟨kb, kr, kB, kt, kne⟩ := tok_world HBK.out HR.out (Below.refl _ _) t
      have HM1 := Lib.hid (mark_is t ⟨#[44]⟩ ((w.alloc (.cells #[.int .i64 t.kind, .int .i64 t.line, .int .i64 t.col, .string t.text, .int .u32 t.num, .int .i64 t.spare] 56)).drew))
      generalize (w.alloc (.cells #[.int .i64 t.kind, .int .i64 t.line, .int .i64 t.col, .string t.text, .int .u32 t.num, .int .i64 t.spare] 56)).drew = wA at kb kr kB kt HM1 ⊢
      generalize w.heap.size = g at kt kne ⊢
      obtain ⟨s0, s1, s2, s3, s4, s5⟩ : wA.cell? ⟨g, 0, none⟩ = some (.int .i64 t.kind) ∧ wA.cell? ⟨g, 1, none⟩ = some (.int .i64 t.line) ∧ wA.cell? ⟨g, 2, none⟩ = some (.int .i64 t.col) ∧ wA.cell? ⟨g, 3, none⟩ = some (.string t.text) ∧ wA.cell? ⟨g, 4, none⟩ = some (.int .u32 t.num) ∧ wA.cell? ⟨g, 5, none⟩ = some (.int .i64 t.spare) := ⟨kt.cell 0, kt.cell 1, kt.cell 2, kt.cell 3, kt.cell 4, kt.cell 5⟩
      have KB := Lib.hid kb
      have KR := Lib.hid kr
      have KW := Lib.hid kB
      have KT := Lib.hid kt
      clear kb kr kB kt kne
      go_wp2_with fail
      refine HM1.out.mono ?_
      rintro e w2 ⟨rfl, hb2⟩
      rw [m1]
      have KB2 := Lib.hid (KB.out.next hb2)
      have KR2 := Lib.hid (KR.out.next hb2)
      have KW2 := Lib.hid (KW.out.trans (hb2.mono KW.out.size))
      have KT2 := Lib.hid (KT.out.below hb2 KT.out.lt)
      clear hb2 s0 s1 s2 s3 s4 s5
      obtain ⟨s0, s1, s2, s3, s4, s5⟩ : w2.cell? ⟨g, 0, none⟩ = some (.int .i64 t.kind) ∧ w2.cell? ⟨g, 1, none⟩ = some (.int .i64 t.line) ∧ w2.cell? ⟨g, 2, none⟩ = some (.int .i64 t.col) ∧ w2.cell? ⟨g, 3, none⟩ = some (.string t.text) ∧ w2.cell? ⟨g, 4, none⟩ = some (.int .u32 t.num) ∧ w2.cell? ⟨g, 5, none⟩ = some (.int .i64 t.spare) := ⟨KT2.out.cell 0, KT2.out.cell 1, KT2.out.cell 2, KT2.out.cell 3, KT2.out.cell 4, KT2.out.cell 5⟩
      go_wp2_with fail
      refine (mark_is t ⟨#[61]⟩ w2).mono ?_
      rintro e w3 ⟨rfl, hb3⟩
      rw [m2]
      replace KB2 := Lib.hid (KB2.out.next hb3)
      replace KR2 := Lib.hid (KR2.out.next hb3)
      clear hb3 s0 s1 s2 s3 s4 s5
      have k1 : w3.cell? ⟨H, 1, none⟩ = some (.int .i64 i) := KB2.out.cell 1
      have k5 : w3.cell? ⟨H, 5, none⟩ = some .nilFunc := KB2.out.cell 5
      have y1 := Blk.frozen KB2.out 1
      have y5 := Blk.frozen KB2.out 5
      go_wp2_with fail
      go_ret
      exact ⟨rfl, vp, qs, ((KB2.out.set5 _).set1 (i + 1) _ rfl), ((KR2.out.set 5 _).set 1 _)⟩
    · rw [if_neg m2]
      replace m2 : t.isM ⟨#[61]⟩ = false := (Bool.not_eq_true _).mp m2
      go_enter Tryd.func87, Tryd.ntmps87
      go_wp2_with fail
      go_region
      all_goals (try go_wp2_with fail)
      clear c0 c1 e0 e1 e2 e3 e4 e5 d0 d1 f0 f1 f2 f3 f4 f5
      obtain ⟨kb, kr, kB, kt, kne⟩ := tok_world HBK.out HR.out (Below.refl _ _) t
      have HM1 := Lib.hid (mark_is t ⟨#[44]⟩ ((w.alloc (.cells #[.int .i64 t.kind, .int .i64 t.line, .int .i64 t.col, .string t.text, .int .u32 t.num, .int .i64 t.spare] 56)).drew))
      generalize (w.alloc (.cells #[.int .i64 t.kind, .int .i64 t.line, .int .i64 t.col, .string t.text, .int .u32 t.num, .int .i64 t.spare] 56)).drew = wA at kb kr kB kt HM1 ⊢
      generalize w.heap.size = g at kt kne ⊢
      obtain ⟨s0, s1, s2, s3, s4, s5⟩ : wA.cell? ⟨g, 0, none⟩ = some (.int .i64 t.kind) ∧ wA.cell? ⟨g, 1, none⟩ = some (.int .i64 t.line) ∧ wA.cell? ⟨g, 2, none⟩ = some (.int .i64 t.col) ∧ wA.cell? ⟨g, 3, none⟩ = some (.string t.text) ∧ wA.cell? ⟨g, 4, none⟩ = some (.int .u32 t.num) ∧ wA.cell? ⟨g, 5, none⟩ = some (.int .i64 t.spare) := ⟨kt.cell 0, kt.cell 1, kt.cell 2, kt.cell 3, kt.cell 4, kt.cell 5⟩
      have KB := Lib.hid kb
      have KR := Lib.hid kr
      have KW := Lib.hid kB
      have KT := Lib.hid kt
      clear kb kr kB kt kne
      go_wp2_with fail
      refine HM1.out.mono ?_
      rintro e w2 ⟨rfl, hb2⟩
      rw [m1]
      have KB2 := Lib.hid (KB.out.next hb2)
      have KR2 := Lib.hid (KR.out.next hb2)
      have KW2 := Lib.hid (KW.out.trans (hb2.mono KW.out.size))
      have KT2 := Lib.hid (KT.out.below hb2 KT.out.lt)
      clear hb2 s0 s1 s2 s3 s4 s5
      obtain ⟨s0, s1, s2, s3, s4, s5⟩ : w2.cell? ⟨g, 0, none⟩ = some (.int .i64 t.kind) ∧ w2.cell? ⟨g, 1, none⟩ = some (.int .i64 t.line) ∧ w2.cell? ⟨g, 2, none⟩ = some (.int .i64 t.col) ∧ w2.cell? ⟨g, 3, none⟩ = some (.string t.text) ∧ w2.cell? ⟨g, 4, none⟩ = some (.int .u32 t.num) ∧ w2.cell? ⟨g, 5, none⟩ = some (.int .i64 t.spare) := ⟨KT2.out.cell 0, KT2.out.cell 1, KT2.out.cell 2, KT2.out.cell 3, KT2.out.cell 4, KT2.out.cell 5⟩
      go_wp2_with fail
      refine (mark_is t ⟨#[61]⟩ w2).mono ?_
      rintro e w3 ⟨rfl, hb3⟩
      rw [m2]
      replace KW2 := Lib.hid (KW2.out.trans (hb3.mono KW2.out.size))
      clear hb3 s0 s1 s2 s3 s4 s5
      go_wp2_with fail
      refine (HBAD.out _ KW2.out).mono ?_
      rintro e w4 h4
      obtain ⟨q, rfl, hq1, hq2, hq3⟩ := h4.from_ (w0 := w0) (HBEL.out.trans (KW2.out.mono HBEL.out.size))
      go_wp2_with fail
      go_ret
      exact ⟨q, rfl, hq1, hq2, hq3⟩
end Go.Proofs.YtbhfblogjlpnlabDoor
