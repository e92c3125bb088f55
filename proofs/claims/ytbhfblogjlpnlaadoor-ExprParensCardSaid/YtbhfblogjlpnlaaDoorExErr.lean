/-
  The contracts of fault.AtToken, AtEnd and AtNext at tokens of any fields: a new *api.Fault at the token's place, or at the last one's. Conditions: the handle of the type error; the tokens' cells lie in the memory.
-/
import Derived.Test.YtbhfblogjlpnlaaDoorExTok
import Derived.Test.YtbhfblogjlpnlaaDoorErr
namespace Go.Proofs.YtbhfblogjlpnlaaDoor
open Go.RowKit


set_option maxRecDepth 100000 in
set_option maxHeartbeats 1000000 in
theorem atToken_is (t : Tk6) (c : Int) (w : World) (hg : Handle w) : Calls Tryd.prog 103 #[t.val, .iface 56 (.int .i64 c)] w (ErrOut w t.line t.col c) := by
  have HG := Lib.hid (fun o => at_any t.line t.col c (w.alloc o) (hg.alloc o))
  have HBA : Hid (∀ o, Below w.heap.size w (w.alloc o)) := Lib.hid (fun o => (Below.refl _ _).alloc (Nat.le_refl _) o)
  go_enter Tryd.func103, Tryd.ntmps103
  go_wp2_with fail
  refine (HG.out _).mono ?_
  rintro e w' h
  have h2 := h.from_ (HBA.out _)
  obtain ⟨b, rfl, h3⟩ := h2
  go_wp2_with fail
  go_ret
  exact ⟨b, rfl, h3⟩

set_option maxRecDepth 100000 in
set_option maxHeartbeats 1000000 in
theorem atEnd_is (ts : List Tk6) (v : Value) (c : Int) (w : World) (hg : Handle w) (hv : Toks w v ts) : Calls Tryd.prog 108 #[v, .iface 56 (.int .i64 c)] w (ErrOut w (placeAt ts ts.length).1 (placeAt ts ts.length).2 c) := by
  obtain ⟨A, cp, rfl, hc, hcm, hcell⟩ := hv.form
  have HCELL := Lib.hid hcell
  clear hcell hv
  rcases Nat.eq_zero_or_pos ts.length with h0 | h0
  · obtain rfl := List.eq_nil_of_length_eq_zero h0
    have HP : placeAt [] ([] : List Tk6).length = (0, 0) := rfl
    rw [HP]
    have h1 : ([] : List Tk6).length = 0 := rfl
    rw [h1]
    have HG := Lib.hid (at_any 0 0 c w hg)
    clear h0 HCELL HP
    go_enter Tryd.func108, Tryd.ntmps108
    go_wp2_with fail
    refine HG.out.mono ?_
    rintro e w' ⟨b, rfl, h3⟩
    go_wp2_with fail
    go_ret
    exact ⟨b, rfl, h3⟩
  · obtain ⟨t, ht⟩ : ∃ t, ts[ts.length - 1]? = some t := ⟨_, List.getElem?_eq_getElem (by omega)⟩
    have hpl : placeAt ts ts.length = (t.line, t.col) := by
      unfold placeAt
      rw [List.getElem?_eq_none (Nat.le_refl _), List.getLast?_eq_getElem?, ht]
    rw [hpl]
    obtain ⟨b, o, rfl, hcs⟩ := HCELL.out _ t ht
    obtain ⟨e0, e1, e2, e3, e4, e5⟩ := hcs w (Below.refl _ _)
    have HT := Lib.hid (atToken_is t c w hg)
    obtain ⟨n, hn⟩ : ∃ n, ts.length = n + 1 := ⟨ts.length - 1, by omega⟩
    rw [hn] at e0 e1 e2 e3 e4 e5 hc ⊢
    simp only [Nat.add_sub_cancel] at e0 e1 e2 e3 e4 e5
    clear hcs HCELL hpl ht h0 hn
    have hnw : (n : Int) + 1 ≤ 9223372036854775807 := by unfold maxLen at hcm; omega
    have q0 : ((n : Int) + 1 == 0) = false := beq_eq_false_iff_ne.2 (by omega)
    go_enter Tryd.func108, Tryd.ntmps108
    go_wp2_with fail
    refine HT.out.mono ?_
    rintro e w' ⟨b', rfl, h3⟩
    go_wp2_with fail
    go_ret
    exact ⟨b', rfl, h3⟩

set_option maxRecDepth 100000 in
set_option maxHeartbeats 1000000 in
theorem atNext_is (ts : List Tk6) (v : Value) (i : Nat) (c : Int) (w : World) (hg : Handle w) (hv : Toks w v ts) (_hi : i ≤ 100001) : Calls Tryd.prog 101 #[v, .int .i64 i, .iface 56 (.int .i64 c)] w (ErrOut w (placeAt ts i).1 (placeAt ts i).2 c) := by
  have HE := Lib.hid (atEnd_is ts v c w hg hv)
  obtain ⟨A, cp, rfl, hc, hcm, hcell⟩ := hv.form
  have HCELL := Lib.hid hcell
  clear hcell hv
  by_cases hlt : i < ts.length
  · have hki : (i : Int) < ts.length := by omega
    have hkc : (i : Int) < cp := by omega
    obtain ⟨t, ht⟩ : ∃ t, ts[i]? = some t := ⟨_, List.getElem?_eq_getElem hlt⟩
    have hpl : placeAt ts i = (t.line, t.col) := by unfold placeAt; rw [ht]
    rw [hpl]
    obtain ⟨b, o, rfl, hcs⟩ := HCELL.out _ t ht
    obtain ⟨e0, e1, e2, e3, e4, e5⟩ := hcs w (Below.refl _ _)
    have HT := Lib.hid (atToken_is t c w hg)
    clear hcs HCELL hpl ht HE
    go_enter Tryd.func101, Tryd.ntmps101
    go_wp2_with fail
    refine HT.out.mono ?_
    rintro e w' ⟨b', rfl, h3⟩
    go_wp2_with fail
    go_ret
    exact ⟨b', rfl, h3⟩
  · have hki : ¬ (i : Int) < ts.length := by omega
    have hpl : placeAt ts i = placeAt ts ts.length := by unfold placeAt; rw [List.getElem?_eq_none (by omega), List.getElem?_eq_none (Nat.le_refl _)]
    rw [hpl]
    clear HCELL hpl
    go_enter Tryd.func101, Tryd.ntmps101
    go_wp2_with fail
    refine HE.out.mono ?_
    rintro e w' ⟨b', rfl, h3⟩
    go_wp2_with fail
    go_ret
    exact ⟨b', rfl, h3⟩
end Go.Proofs.YtbhfblogjlpnlaaDoor
