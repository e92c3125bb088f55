/-
  The contract of the program's Parse: what ERun says. Conditions: the handle of the type error; the tokens lie in the memory, and are tame.
-/
import Derived.Test.YtbhfblogjlpnlaaDoorExWhole
namespace Go.Proofs.YtbhfblogjlpnlaaDoor
open Go.RowKit

/-- The answer of Parse. -/
def ParseOut (w : World) (ts : List Tk6) (r : (Nat × List Nd) ⊕ (Nat × Int)) (e : Ending) (w' : World) : Prop :=
  match r with
  | .inl (j, ns) => ∃ vn A c, e = .returned (.tuple #[vn, .slice A (ts.length - j) c, .nilIface]) ∧ w'.ownsRow w.heap.size 54 5 vn ns.length (ndCells ns) ∧ Toks w' (.slice A (ts.length - j) c) (ts.drop j) ∧ Below w.heap.size w w'
  | .inr (i, c) => ∃ b, e = .returned (.tuple #[.slice none 0 0, .slice none 0 0, .iface 63 (.pointer (some ⟨b, 0, none⟩))]) ∧ w.heap.size ≤ b ∧ Blk w' b 68 #[.int .i64 (placeAt ts i).1, .int .i64 (placeAt ts i).2, .iface 56 (.int .i64 c)] ∧ Below w.heap.size w w'

theorem toks_drop {w : World} {b o c j : Nat} {ts : List Tk6} (h : Toks w (.slice (some ⟨b, o, none⟩) ts.length c) ts) (hj : j < ts.length) : Toks w (.slice (some ⟨b, o + j * 6, none⟩) (ts.length - j) (ts.length - j)) (ts.drop j) := by
  rcases h with ⟨A, c', hv, _, h0⟩ | ⟨b', o', c', hv, h2, h3, h4, h5⟩
  · rw [h0] at hj
    exact absurd hj (by simp)
  · injection hv with hv1 _ hv3
    injection hv1 with hv1
    injection hv1 with hv1 hv2
    subst hv1 hv2 hv3
    refine .inr ⟨b, o + j * 6, ts.length - j, by rw [List.length_drop], by rw [List.length_drop]; exact Nat.le_refl _, by omega, h4, fun i t hi k u hk => ?_⟩
    rw [List.getElem?_drop] at hi
    have := h5 (j + i) t hi k u hk
    rwa [show o + (j + i) * 6 + k = o + j * 6 + i * 6 + k by omega] at this

set_option maxRecDepth 100000 in
set_option maxHeartbeats 4000000 in
theorem parse_is (ts : List Tk6) (vt : Value) (r : (Nat × List Nd) ⊕ (Nat × Int)) (w : World) (hg : Handle w) (htm : Tame ts) (hv : Toks w vt ts) (hr : ERun ts (.bound 1) 0 0 [] r) :
    Calls Tryd.prog 17 #[vt] w (ParseOut w ts r) := by
  obtain ⟨A, c, rfl, hc, hcm, hcell⟩ := hv.form
  have hn := htm.few
  have HV := Lib.hid hv
  have HE := Lib.hid (fun W vn (hb : RBlk W w.heap.size (.slice A ts.length c) 0 0 vn) (hR : ERest w w.heap.size [] vn W) => expression_is w ts _ w.heap.size 0 r W (Lib.hid (eall w ts _ w.heap.size hg htm hv _ (.bound 1) 0 0 [] r (Nat.le_refl _) (Nat.zero_le _) (Nat.le_refl _) (by decide) hr W vn hb hR)))
  have HB0 := Lib.hid (Blk.new w 71 #[.slice A ts.length c, .int .i64 0, .int .i64 0, .slice none 0 0])
  have HR0 : Hid (ERest w w.heap.size [] (.slice none 0 0) (w.alloc (.cells #[.slice A ts.length c, .int .i64 0, .int .i64 0, .slice none 0 0] 71))) := Lib.hid ⟨World.ownsRow_nil _ _ _ _, (Below.refl _ _).alloc (Nat.le_refl _) _, Nat.le_refl _, _, Blk.new _ _ _⟩
  clear hg hv htm
  rcases r with ⟨j, ns⟩ | ⟨j, cd⟩
  · have hj := erun_far hr (Nat.zero_le _)
    simp only [EFar] at hj
    obtain ⟨hj1, hj0⟩ := hj
    have HF : Hid (∃ b o, A = some ⟨b, o, none⟩ ∧ True) := Lib.hid (by
      obtain ⟨b, o, hA, _⟩ := hcell 0 _ (List.getElem?_eq_getElem (by omega))
      exact ⟨b, o, hA, trivial⟩)
    clear hr hcell
    go_enter Tryd.func17, Tryd.ntmps17
    go_wp2_with fail
    refine (HE.out _ _ HB0.out HR0.out).mono ?_
    rintro e w3 ⟨⟨rfl, vn, kb, kr⟩, -⟩
    have c1 : w3.cell? ⟨w.heap.size, 1, none⟩ = some (.int .i64 j) := kb.cell 1
    have c3 : w3.cell? ⟨w.heap.size, 3, none⟩ = some vn := kb.cell 3
    have KR := Lib.hid kr
    have hji : (j : Int) ≤ ts.length := by omega
    have hjc : (j : Int) ≤ c := by omega
    have hlc : (ts.length : Int) ≤ c := by omega
    clear kb kr
    obtain ⟨b, o, rfl⟩ : ∃ b o, A = some ⟨b, o, none⟩ := by
      obtain ⟨b, o, hA, _⟩ := HF.out
      exact ⟨b, o, hA⟩
    by_cases hjl : j = ts.length
    · have hjm : (ts.length : Int) ≤ j := by omega
      subst hjl
      go_wp2_with fail
      go_quiet (fail)
      generalize hq : w3.drewN _ = wq
      have hbq : Below w3.heap.size w3 wq := hq ▸ bdrew (Below.refl _ _)
      have HBQ := Lib.hid hbq
      clear hq hbq
      go_wp2_with fail
      exact bodyPost_ret (v := .tuple #[vn, .slice (some ⟨b, o, none⟩) 0 0, .nilIface]) (by simp [results, Tryd.results17, go_sem]) rfl ⟨vn, some ⟨b, o, none⟩, 0, by rw [Nat.sub_self], (KR.out.next HBQ.out).own, by rw [Nat.sub_self, List.drop_length]; exact .inl ⟨_, _, rfl, Nat.zero_le _, rfl⟩, (KR.out.next HBQ.out).below⟩
    · have hjm : (j : Int) < ts.length := by omega
      go_wp2_with fail
      go_quiet (fail)
      generalize hq : w3.drewN _ = wq
      have hbq : Below w3.heap.size w3 wq := hq ▸ bdrew (Below.refl _ _)
      have HBQ := Lib.hid hbq
      clear hq hbq
      go_wp2_with fail
      exact bodyPost_ret (v := .tuple #[vn, .slice (some ⟨b, o + j * 6, none⟩) (ts.length - j) (ts.length - j), .nilIface]) (by simp [results, Tryd.results17, go_sem]) rfl ⟨vn, some ⟨b, o + j * 6, none⟩, ts.length - j, rfl, (KR.out.next HBQ.out).own, (toks_drop HV.out (by omega)).below (KR.out.next HBQ.out).below, (KR.out.next HBQ.out).below⟩
  · clear hr hcell
    go_enter Tryd.func17, Tryd.ntmps17
    go_wp2_with fail
    refine (HE.out _ _ HB0.out HR0.out).mono ?_
    rintro e w3 ⟨⟨⟨b, rfl, hbs, hbk, hb3⟩, -⟩, -⟩
    have H3 := Lib.hid (And.intro hbs (And.intro hbk hb3))
    clear hbs hbk hb3
    go_wp2_with fail
    exact bodyPost_ret (v := .tuple #[.slice none 0 0, .slice none 0 0, .iface 63 (.pointer (some ⟨b, 0, none⟩))]) (by simp [results, Tryd.results17, go_sem]) rfl ⟨b, rfl, H3.out.1, H3.out.2.1, H3.out.2.2⟩
end Go.Proofs.YtbhfblogjlpnlaaDoor
