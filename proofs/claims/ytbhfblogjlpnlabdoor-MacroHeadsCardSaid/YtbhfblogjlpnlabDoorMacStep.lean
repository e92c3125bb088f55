/-
  The contracts of the steps in which a macro's head is read: name, param, behind. Conditions: the head lies in the memory of the call's own, with what is read of it; its tokens lie in the memory, at most 100000 of them.
-/
import Derived.Test.YtbhfblogjlpnlabDoorMacLeaf
import Derived.RegionTactic
import Derived.BigRegion
import Derived.Laws.EntriesVeiled
namespace Go.Proofs.YtbhfblogjlpnlabDoor
open Go.RowKit

theorem Blk.set {w : World} {g : Nat} {t : TypeId} {cs : Array Value} (h : Blk w g t cs) (i : Nat) (u : Value) : Blk (w.setCell ⟨g, i, none⟩ u) g t (cs.setIfInBounds i u) := heap_setCell_same w g i cs t u h
theorem Blk.drew {w : World} {g : Nat} {t : TypeId} {cs : Array Value} (h : Blk w g t cs) : Blk w.drew g t cs := h
theorem Blk.drewN {w : World} {g : Nat} {t : TypeId} {cs : Array Value} (h : Blk w g t cs) (n : Nat) : Blk (w.drewN n) g t cs := h

section
variable {w w' : World} {H a : Nat} {vt vp nx : Value} {n : ByteArray}
theorem HBlk.set1 (h : HBlk w H vt a n vp nx) (a' : Nat) (x : Int) (hx : x = a') : HBlk (w.setCell ⟨H, 1, none⟩ (.int .i64 x)) H vt a' n vp nx := by
  subst hx
  exact Blk.set h 1 _
theorem HBlk.set2 (h : HBlk w H vt a n vp nx) (n' : ByteArray) : HBlk (w.setCell ⟨H, 2, none⟩ (.string n')) H vt a n' vp nx := Blk.set h 2 _
theorem HBlk.set3 (h : HBlk w H vt a n vp nx) (vp' : Value) : HBlk (w.setCell ⟨H, 3, none⟩ vp') H vt a n vp' nx := Blk.set h 3 _
theorem HBlk.set5 (h : HBlk w H vt a n vp nx) (nx' : Value) : HBlk (w.setCell ⟨H, 5, none⟩ nx') H vt a n vp nx' := Blk.set h 5 _
theorem HBlk.next (h : HBlk w H vt a n vp nx) (hb : Below w.heap.size w w') : HBlk w' H vt a n vp nx := Blk.below h hb (Blk.lt h)
end

/-- What is called next. -/
def nextV (H : Nat) : Option HKind → Value
  | none => .nilFunc
  | some .name => .func (.func 43) #[.pointer (some ⟨H, 0, none⟩)] #[]
  | some .param => .func (.func 65) #[.pointer (some ⟨H, 0, none⟩)] #[]
  | some .behind => .func (.func 87) #[.pointer (some ⟨H, 0, none⟩)] #[]
  | some .value => .func (.func 105) #[.pointer (some ⟨H, 0, none⟩)] #[]

/-- What holds of the parameters that are read, in every world since. -/
structure HRest (w0 : World) (H : Nat) (ps : List HPar) (vp : Value) (qs : List (HPar × Value)) (w : World) : Prop where
  eq : qs.map Prod.fst = ps
  own : w.ownsRow w0.heap.size 99 3 vp qs.length (parCells qs)
  rows : ∀ q ∈ qs, w.ownsRow w0.heap.size 56 6 q.2 q.1.dflt.length (cellsOf q.1.dflt)
  below : Below w0.heap.size w0 w
  base : w0.heap.size ≤ H
  blk : ∃ cs, Blk w H 102 cs
section
variable {w0 w w' : World} {H : Nat} {ps : List HPar} {vp : Value} {qs : List (HPar × Value)}
theorem own_not_head {base e size n : Nat} {v : Value} {xs : List Value} {cs : Array Value} {t : TypeId} (h : w.ownsRow base e size v n xs) (hb : Blk w H t cs) (hne : e ≠ t) : v.ownBlock ≠ some H := by
  rcases h.2 with ⟨rfl, _⟩ | ⟨g, cap, cur, rfl, _, hh, _⟩
  · simp [Value.ownBlock]
  · intro h0
    simp [Value.ownBlock] at h0
    subst h0
    have hb' : w.heap[g]? = some (.cells cs t (0, 0)) := hb
    rw [hb'] at hh
    injection hh with hh
    injection hh with _ hh
    exact hne hh.symm
theorem HRest.next (h : HRest w0 H ps vp qs w) (hb : Below w.heap.size w w') : HRest w0 H ps vp qs w' := by
  obtain ⟨cs, hcs⟩ := h.blk
  exact ⟨h.eq, own_below h.own hb, fun q hq => own_below (h.rows q hq) hb, h.below.trans (hb.mono h.below.size), h.base, cs, hcs.below hb hcs.lt⟩
theorem HRest.alloc (h : HRest w0 H ps vp qs w) (o : Obj) : HRest w0 H ps vp qs (w.alloc o) := h.next ((Below.refl _ _).alloc (Nat.le_refl _) o)
theorem HRest.drew (h : HRest w0 H ps vp qs w) : HRest w0 H ps vp qs w.drew := h.next (Below.refl _ _).drew
theorem HRest.drewN (h : HRest w0 H ps vp qs w) (n : Nat) : HRest w0 H ps vp qs (w.drewN n) := h.next (bdrew (Below.refl _ _))
theorem HRest.set (h : HRest w0 H ps vp qs w) (i : Nat) (u : Value) : HRest w0 H ps vp qs (w.setCell ⟨H, i, none⟩ u) := by
  obtain ⟨cs, hcs⟩ := h.blk
  exact ⟨h.eq, ownsRow_setCell_other h.own (own_not_head h.own hcs (by decide)) u, fun q hq => ownsRow_setCell_other (h.rows q hq) (own_not_head (h.rows q hq) hcs (by decide)) u, h.below.setCell h.base u, h.base, _, hcs.set i u⟩
theorem HRest.pars (h : HRest w0 H ps vp qs w) : Pars w vp ps := by
  rw [← h.eq]
  exact pars_of_own h.own rfl fun q hq => toks_of_own (h.rows q hq) rfl
end

/-- How a step ends. -/
def HOutE (w0 : World) (ts : List Tk6) (vt : Value) (H : Nat) (r : (Option HKind × HState) ⊕ (Nat × Int)) (e : Ending) (w' : World) : Prop :=
  match r with
  | .inl (k, s') => e = .returned .nilIface ∧ ∃ vp qs, HBlk w' H vt s'.at_ s'.name vp (nextV H k) ∧ HRest w0 H s'.ps vp qs w'
  | .inr (i, c) => ErrOut w0 (placeAt ts i).1 (placeAt ts i).2 c e w'

theorem nameAt_some {ts : List Tk6} {i : Nat} {t : Tk6} (h : ts[i]? = some t) : nameAt ts i = (t.kind == 1) := by unfold nameAt; rw [h]
theorem nameAt_none {ts : List Tk6} {i : Nat} (h : ts[i]? = none) : nameAt ts i = false := by unfold nameAt; rw [h]

set_option maxRecDepth 100000 in
set_option maxHeartbeats 4000000 in
theorem name_is (w0 : World) (ts : List Tk6) (vt vp : Value) (qs : List (HPar × Value)) (H : Nat) (s : HState) (w : World) (hg : Handle w0) (hn : ts.length ≤ 100000) (hi : s.at_ ≤ ts.length + 1) (hb : HBlk w H vt s.at_ s.name vp .nilFunc) (hv : Toks w0 vt ts) (hr : HRest w0 H s.ps vp qs w) :
    Calls Tryd.prog 43 #[.pointer (some ⟨H, 0, none⟩)] w (HOutE w0 ts vt H (nameStep ts s)) := by
  obtain ⟨i, n, ps⟩ := s
  simp only at hb hr hi
  have hgw := hg.below hr.below hg.pos
  have hvw := hv.below hr.below
  have HN := Lib.hid (named_is ts vt vp .nilFunc H i n w hb hvw)
  have HBAD := Lib.hid (fun W (hW : Below w.heap.size w W) => bad_is ts vt vp .nilFunc H i n W (hgw.below hW hgw.pos) (by omega) (hb.below hW hb.lt) (hvw.below hW))
  have HR := Lib.hid hr
  have HBK := Lib.hid hb
  have HG := Lib.hid hgw
  have HBEL := Lib.hid hr.below
  obtain ⟨A, c, rfl, hc, hcm, hcell⟩ := hvw.form
  have HCELL := Lib.hid hcell
  clear hb hv hr hcell hg hgw hvw
  by_cases hlt : nameAt ts i = true
  · obtain ⟨t, ht, hk⟩ : ∃ t, ts[i]? = some t ∧ t.kind = 1 := by
      unfold nameAt at hlt
      split at hlt
      · rename_i t ht
        exact ⟨t, ht, by simpa using hlt⟩
      · cases hlt
    have hil := (List.getElem?_eq_some_iff.1 ht).1
    have hki : (i : Int) < ts.length := by omega
    have hkc : (i : Int) < c := by omega
    have hkb : (i : Int) ≤ 100000 := by omega
    obtain ⟨b, o, rfl, hcs⟩ := HCELL.out i t ht
    have HC := Lib.hid hcs
    have hres : nameStep ts ⟨i, n, ps⟩ = if t.dotted = true then .inr (i, 8) else .inl (if i + 1 < ts.length then some .param else none, ⟨i + 1, t.text, ps⟩) := by
      unfold nameStep
      simp only [ht]
      rw [if_pos hk]
    rw [hres]
    have HPX := Lib.hid (fun W => prefix_is t.text W)
    have HAT := Lib.hid (fun W (hW : Below w.heap.size w W) => atToken_is t 8 W (HG.out.below hW HG.out.pos))
    have hpl : placeAt ts i = (t.line, t.col) := by unfold placeAt; rw [ht]
    clear hcs ht hk hres HCELL HBAD
    by_cases hdot : t.dotted = true
    · rw [if_pos hdot]
      have HDOT : Hid ((t.text.data.toList.take 1 == [46]) = true) := Lib.hid hdot
      clear hdot
      go_enter Tryd.func43, Tryd.ntmps43
      go_wp2_with fail
      refine HN.out.mono ?_
      rintro e w1 ⟨rfl, hb1⟩
      rw [hlt]
      have HB1 := Lib.hid hb1
      have c0 : w1.cell? ⟨H, 0, none⟩ = some (.slice (some ⟨b, o, none⟩) ts.length c) := (HBK.out.below hb1 HBK.out.lt).cell 0
      have c1 : w1.cell? ⟨H, 1, none⟩ = some (.int .i64 i) := (HBK.out.below hb1 HBK.out.lt).cell 1
      obtain ⟨e0, e1, e2, e3, e4, e5⟩ := HC.out w1 hb1
      have hup : ∀ o, Below w.heap.size w (w1.alloc o) := fun o => hb1.alloc hb1.size o
      have d0 : ∀ o', (w1.alloc o').cell? ⟨H, 0, none⟩ = some (.slice (some ⟨b, o, none⟩) ts.length c) := fun o' => (HBK.out.below (hup o') HBK.out.lt).cell 0
      have d1 : ∀ o', (w1.alloc o').cell? ⟨H, 1, none⟩ = some (.int .i64 i) := fun o' => (HBK.out.below (hup o') HBK.out.lt).cell 1
      have z1 : ∀ o', (w1.alloc o').frozen? ⟨H, 1, none⟩ = false := fun o' => (HBK.out.below (hup o') HBK.out.lt).frozen 1
      have z2 : ∀ o', (w1.alloc o').frozen? ⟨H, 2, none⟩ = false := fun o' => (HBK.out.below (hup o') HBK.out.lt).frozen 2
      have z5 : ∀ o', (w1.alloc o').frozen? ⟨H, 5, none⟩ = false := fun o' => (HBK.out.below (hup o') HBK.out.lt).frozen 5
      have d2 : ∀ o', (w1.alloc o').cell? ⟨H, 2, none⟩ = some (.string n) := fun o' => (HBK.out.below (hup o') HBK.out.lt).cell 2
      have d5 : ∀ o', (w1.alloc o').cell? ⟨H, 5, none⟩ = some .nilFunc := fun o' => (HBK.out.below (hup o') HBK.out.lt).cell 5
      have f0 := fun o' => (HC.out _ (hup o')).1
      have f1 := fun o' => (HC.out _ (hup o')).2.1
      have f2 := fun o' => (HC.out _ (hup o')).2.2.1
      have f3 := fun o' => (HC.out _ (hup o')).2.2.2.1
      have f4 := fun o' => (HC.out _ (hup o')).2.2.2.2.1
      have f5 := fun o' => (HC.out _ (hup o')).2.2.2.2.2
      have HA1 : Hid (∀ o, Below w.heap.size w (w1.alloc o)) := Lib.hid (fun o => HB1.out.alloc HB1.out.size o)
      clear hb1 hup
      go_wp2_with fail
      go_region
      all_goals (try go_wp2_with fail)
      all_goals refine (HPX.out _).mono ?_
      all_goals rintro e w2 ⟨rfl, rfl⟩
      all_goals rw [HDOT.out]
      all_goals (try go_wp2_with fail)
      all_goals
        refine (HAT.out _ (HA1.out _).drew).mono ?_
        rintro e w3 h3
        obtain ⟨q, rfl, hq1, hq2, hq3⟩ := h3.from_ (w0 := w0) (HBEL.out.trans ((HA1.out _).drew.mono HBEL.out.size))
        go_wp2_with fail
        go_ret
        show ErrOut w0 (placeAt ts i).1 (placeAt ts i).2 8 _ _
        rw [hpl]
        exact ⟨q, rfl, hq1, hq2, hq3⟩
    · rw [if_neg hdot]
      have HDOT : Hid ((t.text.data.toList.take 1 == [46]) = false) := Lib.hid (show t.dotted = false from (Bool.not_eq_true _).mp hdot)
      clear hdot hpl HAT
      by_cases hmore : i + 1 < ts.length
      · rw [if_pos hmore]
        have hmi : (i : Int) + 1 < ts.length := by omega
        have hmd : decide ((i : Int) + 1 < ts.length) = true := decide_eq_true hmi
        go_enter Tryd.func43, Tryd.ntmps43
        go_wp2_with fail
        refine HN.out.mono ?_
        rintro e w1 ⟨rfl, hb1⟩
        rw [hlt]
        have HB1 := Lib.hid hb1
        have c0 : w1.cell? ⟨H, 0, none⟩ = some (.slice (some ⟨b, o, none⟩) ts.length c) := (HBK.out.below hb1 HBK.out.lt).cell 0
        have c1 : w1.cell? ⟨H, 1, none⟩ = some (.int .i64 i) := (HBK.out.below hb1 HBK.out.lt).cell 1
        obtain ⟨e0, e1, e2, e3, e4, e5⟩ := HC.out w1 hb1
        have hup : ∀ o, Below w.heap.size w (w1.alloc o) := fun o => hb1.alloc hb1.size o
        have d0 : ∀ o', (w1.alloc o').cell? ⟨H, 0, none⟩ = some (.slice (some ⟨b, o, none⟩) ts.length c) := fun o' => (HBK.out.below (hup o') HBK.out.lt).cell 0
        have d1 : ∀ o', (w1.alloc o').cell? ⟨H, 1, none⟩ = some (.int .i64 i) := fun o' => (HBK.out.below (hup o') HBK.out.lt).cell 1
        have z1 : ∀ o', (w1.alloc o').frozen? ⟨H, 1, none⟩ = false := fun o' => (HBK.out.below (hup o') HBK.out.lt).frozen 1
        have z2 : ∀ o', (w1.alloc o').frozen? ⟨H, 2, none⟩ = false := fun o' => (HBK.out.below (hup o') HBK.out.lt).frozen 2
        have z5 : ∀ o', (w1.alloc o').frozen? ⟨H, 5, none⟩ = false := fun o' => (HBK.out.below (hup o') HBK.out.lt).frozen 5
        have d2 : ∀ o', (w1.alloc o').cell? ⟨H, 2, none⟩ = some (.string n) := fun o' => (HBK.out.below (hup o') HBK.out.lt).cell 2
        have d5 : ∀ o', (w1.alloc o').cell? ⟨H, 5, none⟩ = some .nilFunc := fun o' => (HBK.out.below (hup o') HBK.out.lt).cell 5
        have f0 := fun o' => (HC.out _ (hup o')).1
        have f1 := fun o' => (HC.out _ (hup o')).2.1
        have f2 := fun o' => (HC.out _ (hup o')).2.2.1
        have f3 := fun o' => (HC.out _ (hup o')).2.2.2.1
        have f4 := fun o' => (HC.out _ (hup o')).2.2.2.2.1
        have f5 := fun o' => (HC.out _ (hup o')).2.2.2.2.2
        have HA1 : Hid (∀ o, Below w.heap.size w (w1.alloc o)) := Lib.hid (fun o => HB1.out.alloc HB1.out.size o)
        clear hb1 hup
        go_wp2_with fail
        go_region
        all_goals (try go_wp2_with fail)
        all_goals refine (HPX.out _).mono ?_
        all_goals rintro e w2 ⟨rfl, rfl⟩
        all_goals rw [HDOT.out]
        all_goals (try go_wp2_with fail)
        all_goals go_quiet (fail)
        all_goals (try go_wp2_with fail)
        all_goals go_ret
        all_goals refine ⟨rfl, vp, qs, ?_, ?_⟩
        all_goals first | exact Blk.drewN (((((HBK.out.next HB1.out).next ((Below.refl _ _).alloc (Nat.le_refl _) _)).set2 _).set1 (i + 1) _ rfl).set5 _) _ | exact (((((HR.out.next HB1.out).alloc _).set 2 _).set 1 _).set 5 _).drewN _
      · rw [if_neg hmore]
        have hmi : ¬ (i : Int) + 1 < ts.length := by omega
        have hmd : decide ((i : Int) + 1 < ts.length) = false := decide_eq_false hmi
        go_enter Tryd.func43, Tryd.ntmps43
        go_wp2_with fail
        refine HN.out.mono ?_
        rintro e w1 ⟨rfl, hb1⟩
        rw [hlt]
        have HB1 := Lib.hid hb1
        have c0 : w1.cell? ⟨H, 0, none⟩ = some (.slice (some ⟨b, o, none⟩) ts.length c) := (HBK.out.below hb1 HBK.out.lt).cell 0
        have c1 : w1.cell? ⟨H, 1, none⟩ = some (.int .i64 i) := (HBK.out.below hb1 HBK.out.lt).cell 1
        obtain ⟨e0, e1, e2, e3, e4, e5⟩ := HC.out w1 hb1
        have hup : ∀ o, Below w.heap.size w (w1.alloc o) := fun o => hb1.alloc hb1.size o
        have d0 : ∀ o', (w1.alloc o').cell? ⟨H, 0, none⟩ = some (.slice (some ⟨b, o, none⟩) ts.length c) := fun o' => (HBK.out.below (hup o') HBK.out.lt).cell 0
        have d1 : ∀ o', (w1.alloc o').cell? ⟨H, 1, none⟩ = some (.int .i64 i) := fun o' => (HBK.out.below (hup o') HBK.out.lt).cell 1
        have z1 : ∀ o', (w1.alloc o').frozen? ⟨H, 1, none⟩ = false := fun o' => (HBK.out.below (hup o') HBK.out.lt).frozen 1
        have z2 : ∀ o', (w1.alloc o').frozen? ⟨H, 2, none⟩ = false := fun o' => (HBK.out.below (hup o') HBK.out.lt).frozen 2
        have z5 : ∀ o', (w1.alloc o').frozen? ⟨H, 5, none⟩ = false := fun o' => (HBK.out.below (hup o') HBK.out.lt).frozen 5
        have d2 : ∀ o', (w1.alloc o').cell? ⟨H, 2, none⟩ = some (.string n) := fun o' => (HBK.out.below (hup o') HBK.out.lt).cell 2
        have d5 : ∀ o', (w1.alloc o').cell? ⟨H, 5, none⟩ = some .nilFunc := fun o' => (HBK.out.below (hup o') HBK.out.lt).cell 5
        have f0 := fun o' => (HC.out _ (hup o')).1
        have f1 := fun o' => (HC.out _ (hup o')).2.1
        have f2 := fun o' => (HC.out _ (hup o')).2.2.1
        have f3 := fun o' => (HC.out _ (hup o')).2.2.2.1
        have f4 := fun o' => (HC.out _ (hup o')).2.2.2.2.1
        have f5 := fun o' => (HC.out _ (hup o')).2.2.2.2.2
        have HA1 : Hid (∀ o, Below w.heap.size w (w1.alloc o)) := Lib.hid (fun o => HB1.out.alloc HB1.out.size o)
        clear hb1 hup
        go_wp2_with fail
        go_region
        all_goals (try go_wp2_with fail)
        all_goals refine (HPX.out _).mono ?_
        all_goals rintro e w2 ⟨rfl, rfl⟩
        all_goals rw [HDOT.out]
        all_goals (try go_wp2_with fail)
        all_goals go_quiet (fail)
        all_goals (try go_wp2_with fail)
        all_goals go_ret
        all_goals refine ⟨rfl, vp, qs, ?_, ?_⟩
        all_goals first | exact Blk.drewN (Blk.drew ((((HBK.out.next HB1.out).next ((Below.refl _ _).alloc (Nat.le_refl _) _)).set2 _).set1 (i + 1) _ rfl)) _ | exact ((((HR.out.next HB1.out).alloc _).set 2 _).set 1 _).drew.drewN _
  · have hlt2 : nameAt ts i = false := (Bool.not_eq_true _).mp hlt
    have hres : nameStep ts ⟨i, n, ps⟩ = .inr (i, 5) := by
      unfold nameAt at hlt2
      unfold nameStep
      simp only
      split at hlt2
      · rename_i t ht
        rw [ht]
        have : ¬ t.kind = 1 := by simpa using hlt2
        simp only [if_neg this]
      · rename_i ht
        rw [ht]
    rw [hres]
    clear hres hlt
    go_enter Tryd.func43, Tryd.ntmps43
    go_wp2_with fail
    refine HN.out.mono ?_
    rintro e w1 ⟨rfl, hb1⟩
    rw [hlt2]
    have HB1 := Lib.hid hb1
    clear hb1
    go_wp2_with fail
    refine (HBAD.out _ HB1.out).mono ?_
    rintro e w3 h3
    obtain ⟨q, rfl, hq1, hq2, hq3⟩ := h3.from_ (w0 := w0) (HBEL.out.trans (HB1.out.mono HBEL.out.size))
    go_wp2_with fail
    go_ret
    exact ⟨q, rfl, hq1, hq2, hq3⟩
end Go.Proofs.YtbhfblogjlpnlabDoor
