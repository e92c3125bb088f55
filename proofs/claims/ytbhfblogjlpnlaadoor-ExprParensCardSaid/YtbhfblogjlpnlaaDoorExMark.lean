/-
  The contracts of the reader's mark and leaf. Conditions: as those of the reader; a Local's scope is 0, and no text is longer than 100000 bytes.
-/
import Derived.Test.YtbhfblogjlpnlaaDoorExDeep
import Derived.Test.YtbhfblogjlpnlaaDoorExSrc
namespace Go.Proofs.YtbhfblogjlpnlaaDoor
open Go.RowKit

set_option maxRecDepth 100000 in
set_option maxHeartbeats 4000000 in
theorem rmark_is (w0 : World) (ts : List Tk6) (vt vn : Value) (ns : List Nd) (R i d : Nat) (s : ByteArray) (w : World) (hg : Handle w0) (hn : ts.length ≤ 100000) (hi : i ≤ ts.length) (hb : RBlk w R vt i d vn) (hv : Toks w0 vt ts) (hr : ERest w0 R ns vn w) :
    Calls Tryd.prog 102 #[.pointer (some ⟨R, 0, none⟩), .string s] w (EPost w0 ts vt R d (if markAt ts i s = true then .inl (i + 1, ns) else .inr (i, 6)) w) := by
  have hvw := hv.below hr.below
  have HBAD := Lib.hid (fun W (hW : Below w.heap.size w W) => ebad_is w0 ts vt vn ns R i d W hg (by omega) (hb.next hW) hv (hr.next hW))
  have HBK := Lib.hid hb
  have HR := Lib.hid hr
  obtain ⟨A, c, rfl, hc, hcm, hcell⟩ := hvw.form
  have HCELL := Lib.hid hcell
  have c0 : w.cell? ⟨R, 0, none⟩ = some (.slice A ts.length c) := hb.cell 0
  have c1 : w.cell? ⟨R, 1, none⟩ = some (.int .i64 i) := hb.cell 1
  clear hb hr hv hvw hcell
  by_cases hlt : i < ts.length
  · have hki : ¬ (ts.length : Int) ≤ i := by omega
    have hkd : decide ((ts.length : Int) ≤ i) = false := decide_eq_false hki
    have hkn : decide (ts.length ≤ i) = false := decide_eq_false (by omega)
    have hki2 : (i : Int) < ts.length := by omega
    have hkc : (i : Int) < c := by omega
    have hib : (i : Int) ≤ 100000 := by omega
    obtain ⟨t, ht⟩ : ∃ t, ts[i]? = some t := ⟨_, List.getElem?_eq_getElem hlt⟩
    have hm : markAt ts i s = t.isM s := by unfold markAt; rw [ht]
    rw [hm]
    obtain ⟨b, o, rfl, hcs⟩ := HCELL.out i t ht
    obtain ⟨e0, e1, e2, e3, e4, e5⟩ := hcs w (Below.refl _ _)
    have HUP : Hid (∀ W, Below w.heap.size w W → W.cell? ⟨R, 0, none⟩ = some (.slice (some ⟨b, o, none⟩) ts.length c) ∧ W.cell? ⟨R, 1, none⟩ = some (.int .i64 i) ∧ W.frozen? ⟨R, 1, none⟩ = false) := Lib.hid (fun W hW => ⟨(HBK.out.next hW).cell 0, (HBK.out.next hW).cell 1, (HBK.out.next hW).frozen 1⟩)
    have HCS := Lib.hid hcs
    have HM := Lib.hid (fun W => emark_is t s W)
    clear hcs ht hm HCELL
    cases hv : t.isM s with
    | true =>
      rw [hv] at HM
      clear hv
      rw [if_pos rfl]
      go_enter Tryd.func102, Tryd.ntmps102
      go_wp2_with fail
      go_region_held3 (fun W => W.cell? ⟨R, 0, none⟩ = some (.slice (some ⟨b, o, none⟩) ts.length c) ∧ W.cell? ⟨R, 1, none⟩ = some (.int .i64 i) ∧ W.cell? ⟨b, o + i * 6, none⟩ = some (.int .i64 t.kind) ∧ W.cell? ⟨b, o + i * 6 + 1, none⟩ = some (.int .i64 t.line) ∧ W.cell? ⟨b, o + i * 6 + 2, none⟩ = some (.int .i64 t.col) ∧ W.cell? ⟨b, o + i * 6 + 3, none⟩ = some (.string t.text) ∧ W.cell? ⟨b, o + i * 6 + 4, none⟩ = some (.int .u32 t.num) ∧ W.cell? ⟨b, o + i * 6 + 5, none⟩ = some (.int .i64 t.spare) ∧ Below w.heap.size w W)
        (first | exact ⟨c0, c1, e0, e1, e2, e3, e4, e5, Below.refl _ _⟩ | exact ⟨c0, c1, e0, e1, e2, e3, e4, e5, (Below.refl _ _).drew⟩ | (go_split_ands; exact ⟨by assumption, by assumption, by assumption, by assumption, by assumption, by assumption, by assumption, by assumption, by assumption⟩) | go_keep)
        (first | (go_at_call 85; go_split_ands; refine (HM.out _).mono ?_; rintro e w3 ⟨rfl, hb3⟩; have hbb : Below w.heap.size w w3 := (Below.refl _ _).drew.trans hb3; obtain ⟨t0, t1, z1⟩ := HUP.out w3 hbb; obtain ⟨f0, f1, f2, f3, f4, f5⟩ := HCS.out w3 hbb))
      go_wp2_with fail
      go_ret
      exact ⟨⟨rfl, vn, (HBK.out.next hbb).set1 (i + 1) _ rfl, (HR.out.next hbb).set 1 _⟩, (Keeps.of hbb).trans (.set (HBK.out.next hbb) _)⟩
    | false =>
      rw [hv] at HM
      clear hv
      rw [if_neg (by decide)]
      go_enter Tryd.func102, Tryd.ntmps102
      go_wp2_with fail
      go_region_held3 (fun W => W.cell? ⟨R, 0, none⟩ = some (.slice (some ⟨b, o, none⟩) ts.length c) ∧ W.cell? ⟨R, 1, none⟩ = some (.int .i64 i) ∧ W.cell? ⟨b, o + i * 6, none⟩ = some (.int .i64 t.kind) ∧ W.cell? ⟨b, o + i * 6 + 1, none⟩ = some (.int .i64 t.line) ∧ W.cell? ⟨b, o + i * 6 + 2, none⟩ = some (.int .i64 t.col) ∧ W.cell? ⟨b, o + i * 6 + 3, none⟩ = some (.string t.text) ∧ W.cell? ⟨b, o + i * 6 + 4, none⟩ = some (.int .u32 t.num) ∧ W.cell? ⟨b, o + i * 6 + 5, none⟩ = some (.int .i64 t.spare) ∧ Below w.heap.size w W)
        (first | exact ⟨c0, c1, e0, e1, e2, e3, e4, e5, Below.refl _ _⟩ | exact ⟨c0, c1, e0, e1, e2, e3, e4, e5, (Below.refl _ _).drew⟩ | (go_split_ands; exact ⟨by assumption, by assumption, by assumption, by assumption, by assumption, by assumption, by assumption, by assumption, by assumption⟩) | go_keep)
        (first | (go_at_call 85; go_split_ands; refine (HM.out _).mono ?_; rintro e w3 ⟨rfl, hb3⟩; have hbb : Below w.heap.size w w3 := (Below.refl _ _).drew.trans hb3; obtain ⟨t0, t1, z1⟩ := HUP.out w3 hbb; obtain ⟨f0, f1, f2, f3, f4, f5⟩ := HCS.out w3 hbb))
      go_wp2_with fail
      refine (HBAD.out _ hbb).mono ?_
      rintro e w4 ⟨⟨⟨b', rfl, hbs, hbk, hb4⟩, j', vn', ns', kb4, kr4⟩, hk4⟩
      have H4 := Lib.hid (And.intro hbs (And.intro hbk (And.intro hb4 (And.intro kb4 (And.intro kr4 ((Keeps.of hbb).trans hk4))))))
      clear hbs hbk hb4 kb4 kr4 hk4
      go_wp2_with fail
      go_ret
      exact ⟨⟨⟨b', rfl, H4.out.1, H4.out.2.1, H4.out.2.2.1⟩, j', vn', ns', H4.out.2.2.2.1, H4.out.2.2.2.2.1⟩, H4.out.2.2.2.2.2⟩
  · have hki : (ts.length : Int) ≤ i := by omega
    have hkd : decide ((ts.length : Int) ≤ i) = true := decide_eq_true hki
    have hkn : decide (ts.length ≤ i) = true := decide_eq_true (by omega)
    have hm : markAt ts i s = false := by unfold markAt; rw [List.getElem?_eq_none (by omega)]
    rw [hm, if_neg (by decide)]
    clear HCELL hm
    have HWW : Hid (∀ n, Below w.heap.size w (w.drewN n)) := Lib.hid (fun n => bdrew (Below.refl _ _))
    go_enter Tryd.func102, Tryd.ntmps102
    go_wp2_with fail
    go_quiet (fail)
    go_wp2_with fail
    refine (HBAD.out _ (HWW.out _)).mono ?_
    rintro e w4 ⟨⟨⟨b', rfl, hbs, hbk, hb4⟩, j', vn', ns', kb4, kr4⟩, hk4⟩
    have H4 := Lib.hid (And.intro hbs (And.intro hbk (And.intro hb4 (And.intro kb4 (And.intro kr4 ((Keeps.of (HWW.out _)).trans hk4))))))
    clear hbs hbk hb4 kb4 kr4 hk4
    go_wp2_with fail
    go_ret
    exact ⟨⟨⟨b', rfl, H4.out.1, H4.out.2.1, H4.out.2.2.1⟩, j', vn', ns', H4.out.2.2.2.1, H4.out.2.2.2.2.1⟩, H4.out.2.2.2.2.2⟩
end Go.Proofs.YtbhfblogjlpnlaaDoor
