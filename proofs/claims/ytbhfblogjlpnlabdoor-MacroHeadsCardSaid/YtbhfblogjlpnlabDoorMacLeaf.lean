/-
  The contracts of what the steps of a macro's head go by: named, bad, find, param, strings.HasPrefix of a point. Conditions: the head lies in the memory, with its tokens and parameters.
-/
import Derived.Test.YtbhfblogjlpnlabDoorMacErr
import Derived.Test.YtbhfblogjlpnlabDoorMacShape
namespace Go.Proofs.YtbhfblogjlpnlabDoor
open Go.RowKit

/-- A head in the memory. -/
abbrev HBlk (w : World) (H : Nat) (vt : Value) (a : Nat) (n : ByteArray) (vp nx : Value) : Prop := Blk w H 102 #[vt, .int .i64 a, .string n, vp, .slice none 0 0, nx]

/-- Does a name stand there? -/
def nameAt (ts : List Tk6) (i : Nat) : Bool := match ts[i]? with
  | some t => t.kind == 1
  | none => false

set_option maxRecDepth 100000 in
set_option maxHeartbeats 1000000 in
theorem named_is (ts : List Tk6) (vt vp nx : Value) (H i : Nat) (n : ByteArray) (w : World) (hb : HBlk w H vt i n vp nx) (hv : Toks w vt ts) : Calls Tryd.prog 62 #[.pointer (some ⟨H, 0, none⟩)] w fun e w' => e = .returned (.bool (nameAt ts i)) ∧ Below w.heap.size w w' := by
  obtain ⟨A, c, rfl, hc, hcm, hcell⟩ := hv.form
  have c0 : w.cell? ⟨H, 0, none⟩ = some (.slice A ts.length c) := hb.cell 0
  have c1 : w.cell? ⟨H, 1, none⟩ = some (.int .i64 i) := hb.cell 1
  have HCELL := Lib.hid hcell
  clear hb hv hcell
  by_cases hlt : i < ts.length
  · have hki : (i : Int) < ts.length := by omega
    have hkc : (i : Int) < c := by omega
    have hd : decide ((i : Int) < ts.length) = true := decide_eq_true hki
    obtain ⟨t, ht⟩ : ∃ t, ts[i]? = some t := ⟨_, List.getElem?_eq_getElem hlt⟩
    have hr : nameAt ts i = (t.kind == 1) := by unfold nameAt; rw [ht]
    obtain ⟨b, o, rfl, hcs⟩ := HCELL.out i t ht
    obtain ⟨e0, -⟩ := hcs w (Below.refl _ _)
    have HR := Lib.hid hr
    clear HCELL hcs hr ht
    go_enter Tryd.func62, Tryd.ntmps62
    go_wp2_with fail
    go_quiet (fail)
    go_wp2_with fail
    go_ret
    exact ⟨by rw [HR.out]; rfl, bdrew (Below.refl _ _)⟩
  · have hki : ¬ (i : Int) < ts.length := by omega
    have hd : decide ((i : Int) < ts.length) = false := decide_eq_false hki
    have hr : nameAt ts i = false := by unfold nameAt; rw [List.getElem?_eq_none (by omega)]
    have HR := Lib.hid hr
    clear HCELL hr
    go_enter Tryd.func62, Tryd.ntmps62
    go_wp2_with fail
    go_quiet (fail)
    go_wp2_with fail
    go_ret
    exact ⟨by rw [HR.out]; rfl, bdrew (Below.refl _ _)⟩

set_option maxRecDepth 100000 in
set_option maxHeartbeats 1000000 in
theorem bad_is (ts : List Tk6) (vt vp nx : Value) (H i : Nat) (n : ByteArray) (w : World) (hg : Handle w) (hi : i ≤ 100001) (hb : HBlk w H vt i n vp nx) (hv : Toks w vt ts) : Calls Tryd.prog 63 #[.pointer (some ⟨H, 0, none⟩)] w (ErrOut w (placeAt ts i).1 (placeAt ts i).2 5) := by
  have c0 : w.cell? ⟨H, 0, none⟩ = some vt := hb.cell 0
  have c1 : w.cell? ⟨H, 1, none⟩ = some (.int .i64 i) := hb.cell 1
  have HN := Lib.hid (fun W (hW : Below w.heap.size w W) => atNext_is ts vt i 5 W (hg.below hW hg.pos) (hv.below hW) hi)
  have HC0 := Lib.hid (fun W (hW : Below w.heap.size w W) => (hW.cell (p := ⟨H, 0, none⟩) (World.block_lt_of_cell? w _ c0)).trans c0)
  have HC1 := Lib.hid (fun W (hW : Below w.heap.size w W) => (hW.cell (p := ⟨H, 1, none⟩) (World.block_lt_of_cell? w _ c1)).trans c1)
  clear hb hv hg
  go_enter Tryd.func63, Tryd.ntmps63
  go_wp2_with fail
  go_region_held3 (fun W => W.cell? ⟨H, 0, none⟩ = some vt ∧ W.cell? ⟨H, 1, none⟩ = some (.int .i64 i) ∧ Below w.heap.size w W)
    (first | exact ⟨c0, c1, Below.refl _ _⟩ | exact ⟨c0, c1, (Below.refl _ _).drew⟩ | (go_split_ands; exact ⟨by assumption, by assumption, by assumption⟩) | go_keep)
    (first | (go_at_call 85; go_split_ands; refine (HN.out _ (by assumption)).mono ?_; rintro e w3 ⟨b, rfl, hbs, hbk, hb3⟩; have hbb : Below w.heap.size w w3 := (Below.refl _ _).drew.trans hb3; have t0 := HC0.out w3 hbb; have t1 := HC1.out w3 hbb))
  go_wp2_with fail
  go_ret
  exact ⟨b, rfl, hbs, hbk, hbb⟩


theorem dotted_of (s : ByteArray) : (s.data.toList.take 1 == [46]) = ((s.extract 0 1).toList == [46]) := by
  rw [ByteArray.toList_eq]
  have : (s.extract 0 1).data.toList = s.data.toList.take 1 := by simp
  rw [this]

set_option maxRecDepth 100000 in
set_option maxHeartbeats 1000000 in
theorem litePrefix_is (s : ByteArray) (w : World) : Calls Tryd.prog 86 #[.string s, .string ⟨#[46]⟩] w fun e w' => e = .returned (.bool (s.data.toList.take 1 == [46])) ∧ w' = w := by
  by_cases h0 : 0 < s.size
  · have h1 : (1 : Int) ≤ s.size := by omega
    have HR := Lib.hid (dotted_of s)
    go_enter Tryd.func86, Tryd.ntmps86
    go_wp2_with fail
    go_ret
    exact ⟨by rw [HR.out]; rfl, rfl⟩
  · have h1 : ¬ (1 : Int) ≤ s.size := by omega
    have hr : (s.data.toList.take 1 == [46]) = false := by
      have : s.data.toList = [] := List.eq_nil_of_length_eq_zero (by have : s.data.toList.length = s.size := by simp
                                                                     omega)
      rw [this]
      rfl
    rw [hr]
    clear hr
    go_enter Tryd.func86, Tryd.ntmps86
    go_wp2_with fail
    go_ret
    exact ⟨rfl, rfl⟩
set_option maxRecDepth 100000 in
set_option maxHeartbeats 1000000 in
theorem prefix_is (s : ByteArray) (w : World) : Calls Tryd.prog 64 #[.string s, .string ⟨#[46]⟩] w fun e w' => e = .returned (.bool (s.data.toList.take 1 == [46])) ∧ w' = w := by
  have HR := Lib.hid (fun w => litePrefix_is s w)
  go_enter Tryd.func64, Tryd.ntmps64
  go_wp2_with fail
  refine (HR.out _).mono ?_
  rintro e w' ⟨rfl, rfl⟩
  go_wp2_with fail
  go_ret
  exact ⟨rfl, rfl⟩

/-- The place of the parameter of a name. -/
def parAt (ps : List HPar) (n : ByteArray) : Int := match ps.findIdx? (HPar.named n) with
  | some k => k
  | none => -1

set_option maxRecDepth 100000 in
set_option maxHeartbeats 1000000 in
theorem isPar_is (p : HPar) (d : Value) (B : Nat) (n : ByteArray) (w : World) (hB : w.cell? ⟨B, 0, none⟩ = some (.string n)) : Calls Tryd.prog 91 #[.agg #[.string p.name, .bool p.has, d], .pointer (some ⟨B, 0, none⟩)] w fun e w' => e = .returned (.bool (p.named n)) ∧ Below w.heap.size w w' := by
  have hB1 : ∀ o, (w.alloc o).cell? ⟨B, 0, none⟩ = some (.string n) := fun o => (((Below.refl _ w).alloc (Nat.le_refl _) o).cell (p := ⟨B, 0, none⟩) (World.block_lt_of_cell? w _ hB)).trans hB
  have HBA : Hid (∀ o, Below w.heap.size w (w.alloc o)) := Lib.hid (fun o => (Below.refl _ _).alloc (Nat.le_refl _) o)
  go_enter Tryd.func91, Tryd.ntmps91
  go_wp2_with fail
  go_ret
  exact ⟨rfl, HBA.out _⟩

theorem parAt_some {ps : List HPar} {n : ByteArray} {k : Nat} {p : HPar} (hp : ps[k]? = some p) (h : p.named n = true) (hb : ∀ (j : Nat) (q : HPar), j < k → ps[j]? = some q → q.named n = false) : parAt ps n = k := by
  obtain ⟨hk, rfl⟩ := List.getElem?_eq_some_iff.1 hp
  have : ps.findIdx? (HPar.named n) = some k := by
    rw [List.findIdx?_eq_some_iff_getElem]
    refine ⟨hk, h, fun j hj => ?_⟩
    rw [hb j _ hj (List.getElem?_eq_getElem (by omega))]
    decide
  unfold parAt
  rw [this]
theorem parAt_none {ps : List HPar} {n : ByteArray} (hb : ∀ (j : Nat) (q : HPar), j < ps.length → ps[j]? = some q → q.named n = false) : parAt ps n = -1 := by
  have : ps.findIdx? (HPar.named n) = none := by
    rw [List.findIdx?_eq_none_iff]
    intro q hq
    obtain ⟨j, hj, rfl⟩ := List.getElem_of_mem hq
    exact hb j _ hj (List.getElem?_eq_getElem hj)
  unfold parAt
  rw [this]
theorem parAt_has (ps : List HPar) (n : ByteArray) : decide (0 ≤ parAt ps n) = hasPar ps n := by
  unfold parAt hasPar
  cases h : ps.findIdx? (HPar.named n) with
  | none =>
    rw [List.findIdx?_eq_none_iff] at h
    have : ps.any (HPar.named n) = false := by
      rw [List.any_eq_false]
      intro x hx
      rw [h x hx]
      decide
    rw [this]
    decide
  | some k =>
    rw [List.findIdx?_eq_some_iff_getElem] at h
    obtain ⟨hk, h1, _⟩ := h
    have : ps.any (HPar.named n) = true := List.any_eq_true.2 ⟨ps[k], List.getElem_mem hk, h1⟩
    rw [this]
    exact decide_eq_true (by simp)

set_option maxRecDepth 100000 in
set_option maxHeartbeats 4000000 in
theorem find_is (ps : List HPar) (vp : Value) (B : Nat) (n : ByteArray) (w : World) (hp : Pars w vp ps) (hB : w.cell? ⟨B, 0, none⟩ = some (.string n)) : Calls Tryd.prog 90 #[vp, .func (.func 91) #[] #[.pointer (some ⟨B, 0, none⟩)]] w fun e w' => e = .returned (.int .i64 (parAt ps n)) ∧ Below w.heap.size w w' := by
  obtain ⟨A, c, rfl, hc, hcm, hcell⟩ := hp.form
  have HCELL := Lib.hid hcell
  have HB := Lib.hid (fun W (hW : Below w.heap.size w W) => (hW.cell (p := ⟨B, 0, none⟩) (World.block_lt_of_cell? w _ hB)).trans hB)
  clear hp hcell hB
  go_enter Tryd.func90, Tryd.ntmps90
  go_wp2_with fail
  go_loopw [9] (fun i wr => ∃ k : Nat, k ≤ ps.length ∧ i = .int .i64 k ∧ Hid (∀ (j : Nat) (q : HPar), j < k → ps[j]? = some q → q.named n = false) ∧ Hid (Below w.heap.size w wr)) (fun i _ => ps.length - (intOf i).toNat)
  case atStart => exact ⟨0, Nat.zero_le _, rfl, Lib.hid (fun j q h => by omega), Lib.hid (Below.refl _ _)⟩
  case round =>
    obtain ⟨k, hk, rfl, HF, HX⟩ := hrel
    by_cases hlt : k < ps.length
    · have hki : (k : Int) < ps.length := by omega
      have hkb : (k : Int) + 1 ≤ 9223372036854775807 := by unfold maxLen at hcm; omega
      have hkc : (k : Int) < c := by omega
      obtain ⟨p, hpk⟩ : ∃ p, ps[k]? = some p := ⟨_, List.getElem?_eq_getElem hlt⟩
      obtain ⟨b, o, d, rfl, hd, hcs⟩ := HCELL.out k p hpk
      obtain ⟨Ad, cd, rfl, -⟩ := hd.form
      obtain ⟨e0, e1, e2⟩ := hcs wr HX.out
      have HPK := Lib.hid hpk
      have HC := Lib.hid (fun (o : Obj) => isPar_is p (.slice Ad p.dflt.length cd) B n (wr.alloc o) (HB.out _ (HX.out.alloc HX.out.size _)))
      clear hcs hd hpk
      have HWA : Hid (∀ o, Below w.heap.size w (wr.alloc o)) := Lib.hid (fun o => HX.out.alloc HX.out.size o)
      go_wp2_with fail
      refine (HC.out _).mono ?_
      rintro e w1 ⟨rfl, hb1⟩
      have HB1 := Lib.hid ((HWA.out _).trans (hb1.mono (HWA.out _).size))
      clear hb1
      by_cases hn : p.named n = true
      · go_wp2_with fail
        go_ret
        exact ⟨by rw [parAt_some HPK.out hn HF.out]; rfl, HB1.out⟩
      · have hn2 : p.named n = false := by simpa using hn
        clear hn
        go_wp2_with fail
        go_roundw
        case rel => exact ⟨k + 1, by omega, by go_num, Lib.hid (fun j q hj hq => by
          rcases Nat.lt_or_ge j k with h | h
          · exact HF.out j q h hq
          · obtain rfl : j = k := by omega
            rw [HPK.out] at hq
            injection hq with hq
            rw [← hq]
            exact hn2), HB1⟩
        case measure => simp [intOf]; omega
    · obtain rfl : k = ps.length := by omega
      go_wp2_with fail
      go_ret
      exact ⟨by rw [parAt_none HF.out]; rfl, HX.out⟩

set_option maxRecDepth 100000 in
set_option maxHeartbeats 1000000 in
theorem param_is (ps : List HPar) (vp vl : Value) (nm n : ByteArray) (w : World) (hp : Pars w vp ps) : Calls Tryd.prog 73 #[.agg #[.string nm, vp, vl], .string n] w fun e w' => e = .returned (.int .i64 (parAt ps n)) ∧ Below w.heap.size w w' := by
  have HF := Lib.hid (fun o o2 (h : ((w.alloc o).alloc o2).cell? ⟨w.heap.size + 1, 0, none⟩ = some (.string n)) => find_is ps vp (w.heap.size + 1) n ((w.alloc o).alloc o2) ((hp.below ((Below.refl _ _).alloc (Nat.le_refl _) o)).below ((Below.refl _ _).alloc (Nat.le_refl _) o2)) h)
  have HBA : Hid (∀ o o2, Below w.heap.size w ((w.alloc o).alloc o2)) := Lib.hid (fun o o2 => ((Below.refl _ _).alloc (Nat.le_refl _) o).alloc (by simp) o2)
  go_enter Tryd.func73, Tryd.ntmps73
  go_wp2_with fail
  refine (HF.out _ _ (by simp)).mono ?_
  rintro e w1 ⟨rfl, hb1⟩
  have HB1 := Lib.hid ((HBA.out _ _).trans (hb1.mono (HBA.out _ _).size))
  clear hb1
  go_wp2_with fail
  go_ret
  exact ⟨rfl, HB1.out⟩
end Go.Proofs.YtbhfblogjlpnlabDoor
