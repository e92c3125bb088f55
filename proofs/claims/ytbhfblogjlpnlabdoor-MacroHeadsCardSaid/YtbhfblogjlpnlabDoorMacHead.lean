/-
  The contract of the program's Head: what HRun says of the tokens. Conditions: the handle of the type error; the tokens lie in the memory, at most 100000 of them.
-/
import Derived.Test.YtbhfblogjlpnlabDoorMacStepV
import Derived.Deep.LoopGhost
namespace Go.Proofs.YtbhfblogjlpnlabDoor
open Go.RowKit

def fnOf : HKind → FuncId
  | .name => 43
  | .param => 65
  | .behind => 87
  | .value => 105
theorem nextV_some (H : Nat) (k : HKind) : nextV H (some k) = .func (.func (fnOf k)) #[.pointer (some ⟨H, 0, none⟩)] #[] := by cases k <;> rfl

theorem hstep_is (k : HKind) (w0 : World) (ts : List Tk6) (vt vp : Value) (qs : List (HPar × Value)) (H : Nat) (s : HState) (w : World) (hg : Handle w0) (hn : ts.length ≤ 100000) (hf : HFit ts (some k) s) (hb : HBlk w H vt s.at_ s.name vp .nilFunc) (hv : Toks w0 vt ts) (hr : HRest w0 H s.ps vp qs w) :
    Calls Tryd.prog (fnOf k) #[.pointer (some ⟨H, 0, none⟩)] w (HOutE w0 ts vt H (hstep ts k s)) := by
  cases k with
  | name => exact name_is w0 ts vt vp qs H s w hg hn hf.le1 hb hv hr
  | param => exact hparam_is w0 ts vt vp qs H s w hg hn hf.le1 hf.few hb hv hr
  | behind => exact behind_is w0 ts vt vp qs H s w hg hn (hf.behind rfl) hb hv hr
  | value => exact value_is w0 ts vt vp qs H s w hn (hf.le.resolve_left nofun) (hf.value rfl) hf.few hb hv hr

/-- The answer of Head. -/
def HeadOut (w : World) (ts : List Tk6) (r : HState ⊕ (Nat × Int)) (e : Ending) (w' : World) : Prop :=
  match r with
  | .inl s => ∃ vp, e = .returned (.tuple #[.agg #[.string s.name, vp, .slice none 0 0], .nilIface]) ∧ Pars w' vp s.ps ∧ Below w.heap.size w w'
  | .inr (i, c) => ∃ b, e = .returned (.tuple #[.agg #[.string ⟨#[]⟩, .slice none 0 0, .slice none 0 0], .iface 107 (.pointer (some ⟨b, 0, none⟩))]) ∧ w.heap.size ≤ b ∧ Blk w' b 113 #[.int .i64 (placeAt ts i).1, .int .i64 (placeAt ts i).2, .iface 111 (.int .i64 c)] ∧ Below w.heap.size w w'

/-- Parameters of the call's own. -/
structure HOwn (w0 : World) (ps : List HPar) (vp : Value) (qs : List (HPar × Value)) (w : World) : Prop where
  eq : qs.map Prod.fst = ps
  own : w.ownsRow w0.heap.size 99 3 vp qs.length (parCells qs)
  rows : ∀ q ∈ qs, w.ownsRow w0.heap.size 56 6 q.2 q.1.dflt.length (cellsOf q.1.dflt)
theorem HOwn.low {w0 w : World} {ps : List HPar} {vp : Value} {qs : List (HPar × Value)} (h : HOwn w0 ps vp qs w) {R i : Nat} (hR : R < w0.heap.size) (u : Value) : HOwn w0 ps vp qs (w.setCell ⟨R, i, none⟩ u) :=
  ⟨h.eq, ownsRow_setCell_below h.own hR u, fun q hq => ownsRow_setCell_below (h.rows q hq) hR u⟩
theorem HOwn.pars {w0 w : World} {ps : List HPar} {vp : Value} {qs : List (HPar × Value)} (h : HOwn w0 ps vp qs w) : Pars w vp ps := by
  rw [← h.eq]
  exact pars_of_own h.own rfl fun q hq => toks_of_own (h.rows q hq) rfl

set_option maxRecDepth 100000 in
set_option maxHeartbeats 4000000 in
theorem head_is (ts : List Tk6) (vt : Value) (r : HState ⊕ (Nat × Int)) (w : World) (hg : Handle w) (hn : ts.length ≤ 100000) (hv : Toks w vt ts) (hr : HRun ts (some .name) headStart r) :
    Calls Tryd.prog 16 #[vt] w (HeadOut w ts r) := by
  have q1 : ∀ (f : FuncId) (a b : Array Value) (w : World), (binOp .neq 97 (.func (.func f) a b) .nilFunc).run Tryd.prog w = .ok (.bool true) w := fun f a b w => rfl
  have q2 : ∀ (w : World), (binOp .neq 97 .nilFunc .nilFunc).run Tryd.prog w = .ok (.bool false) w := fun w => rfl
  obtain ⟨A, c, rfl, hc, hcm, _⟩ := hv.form
  obtain ⟨w0, hw0⟩ : ∃ w0, w.alloc (.cells #[.string ⟨#[]⟩, .slice none 0 0, .slice none 0 0] 41) = w0 := ⟨_, rfl⟩
  have hb0 : Below w.heap.size w w0 := by rw [← hw0]; exact (Below.refl _ _).alloc (Nat.le_refl _) _
  have hRB : Blk w0 w.heap.size 41 #[.string ⟨#[]⟩, .slice none 0 0, .slice none 0 0] := by rw [← hw0]; exact Blk.new _ _ _
  have hsz0 : w0.heap.size = w.heap.size + 1 := by rw [← hw0]; simp
  have HW0 := Lib.hid hw0
  have HB0 := Lib.hid hb0
  have HRB := Lib.hid hRB
  have HG := Lib.hid (hg.below hb0 hg.pos)
  have HT := Lib.hid (hv.below hb0)
  have HRN := Lib.hid hr
  have HSZ := Lib.hid hsz0
  have hHR : ¬ w.heap.size + 1 = w.heap.size := by omega
  have hRH : ¬ w.heap.size = w.heap.size + 1 := by omega
  have HST : Hid (HBlk (w0.alloc (.cells #[.slice A ts.length c, .int .i64 1, .string ⟨#[]⟩, .slice none 0 0, .slice none 0 0, nextV (w.heap.size + 1) (some .name)] 102)) (w.heap.size + 1) (.slice A ts.length c) headStart.at_ headStart.name (.slice none 0 0) (nextV (w.heap.size + 1) (some .name)) ∧ HRest w0 (w.heap.size + 1) headStart.ps (.slice none 0 0) [] (w0.alloc (.cells #[.slice A ts.length c, .int .i64 1, .string ⟨#[]⟩, .slice none 0 0, .slice none 0 0, nextV (w.heap.size + 1) (some .name)] 102))) := Lib.hid (by
    rw [← hsz0]
    exact ⟨Blk.new _ _ _, ⟨rfl, World.ownsRow_nil _ _ _ _, (fun q hq => nomatch hq), (Below.refl _ _).alloc (Nat.le_refl _) _, Nat.le_refl _, _, Blk.new _ _ _⟩⟩)
  clear hv hr hg hb0 hRB hw0 hsz0
  go_enter Tryd.func16, Tryd.ntmps16
  go_wp2_with fail
  go_loopg [5] (2 * ts.length + 3) (fun g _ wr => ∃ (k : Option HKind) (s : HState) (vp : Value) (qs : List (HPar × Value)), Hid (HBlk wr (w.heap.size + 1) (.slice A ts.length c) s.at_ s.name vp (nextV (w.heap.size + 1) k)) ∧ Hid (HRest w0 (w.heap.size + 1) s.ps vp qs wr) ∧ Hid (HFit ts k s) ∧ Hid (HRun ts k s r) ∧ Hid (hleft ts.length k s ≤ g))
  case atStart => exact ⟨some .name, headStart, .slice none 0 0, [], Lib.hid (by rw [HW0.out]; exact HST.out.1), Lib.hid (by rw [HW0.out]; exact HST.out.2), Lib.hid (headStart_fit ts), HRN, Lib.hid (by simp only [hleft, headStart]; omega)⟩
  case round =>
    obtain ⟨k, s, vp, qs, HBK, HR, HF, HRU, HL⟩ := hrel
    obtain ⟨Ap, cp, rfl⟩ := own_shape HR.out.own
    cases k with
    | none =>
      have k5 : wr.cell? ⟨w.heap.size + 1, 5, none⟩ = some .nilFunc := HBK.out.cell 5
      have k2 : wr.cell? ⟨w.heap.size + 1, 2, none⟩ = some (.string s.name) := HBK.out.cell 2
      have k3 : wr.cell? ⟨w.heap.size + 1, 3, none⟩ = some (.slice Ap qs.length cp) := HBK.out.cell 3
      have k4 : wr.cell? ⟨w.heap.size + 1, 4, none⟩ = some (.slice none 0 0) := HBK.out.cell 4
      have hRb := (HRB.out.below HR.out.below HRB.out.lt)
      have x0 : wr.cell? ⟨w.heap.size, 0, none⟩ = some (.string ⟨#[]⟩) := hRb.cell 0
      have x1 : wr.cell? ⟨w.heap.size, 1, none⟩ = some (.slice none 0 0) := hRb.cell 1
      have x2 : wr.cell? ⟨w.heap.size, 2, none⟩ = some (.slice none 0 0) := hRb.cell 2
      have z0 := hRb.frozen 0
      have z1 := hRb.frozen 1
      have z2 := hRb.frozen 2
      have hres : r = .inl s := by
        have := HRU.out
        cases this
        rfl
      subst hres
      have HOW : Hid (HOwn w0 s.ps (.slice Ap qs.length cp) qs wr) := Lib.hid ⟨HR.out.eq, HR.out.own, HR.out.rows⟩
      have HBW : Hid (Below w.heap.size w wr) := Lib.hid (HB0.out.trans (HR.out.below.mono HB0.out.size))
      have hlow : w.heap.size < w0.heap.size := by have := HSZ.out; omega
      have HLOW := Lib.hid hlow
      clear hRb hlow
      go_wp2_with fail
      exact bodyPost_ret (v := .tuple #[.agg #[.string s.name, .slice Ap qs.length cp, .slice none 0 0], .nilIface]) (by simp [results, Tryd.results16, go_sem, x0, x1, x2]) rfl ⟨_, rfl, (((HOW.out.low HLOW.out _).low HLOW.out _).low HLOW.out _).pars, ((HBW.out.setCell (Nat.le_refl _) _).setCell (Nat.le_refl _) _).setCell (Nat.le_refl _) _⟩
    | some k =>
      have k5 : wr.cell? ⟨w.heap.size + 1, 5, none⟩ = some (.func (.func (fnOf k)) #[.pointer (some ⟨w.heap.size + 1, 0, none⟩)] #[]) := by rw [← nextV_some]; exact HBK.out.cell 5
      have y5 := Blk.frozen HBK.out 5
      have HC := Lib.hid (hstep_is k w0 ts (.slice A ts.length c) (.slice Ap qs.length cp) qs (w.heap.size + 1) s (wr.setCell ⟨w.heap.size + 1, 5, none⟩ .nilFunc) HG.out hn HF.out (HBlk.set5 HBK.out _) HT.out (HR.out.set 5 _))
      cases hs : hstep ts k s with
      | inl p =>
        obtain ⟨k', s'⟩ := p
        rw [hs] at HC
        obtain ⟨hf', hlt⟩ := hstep_fit HF.out hs
        have hrun' : HRun ts k' s' r := by
          have := HRU.out
          cases this with
          | bad _ _ _ h =>
            rw [hs] at h
            cases h
          | go _ _ _ _ _ h hr =>
            rw [hs] at h
            injection h with h
            injection h with h1 h2
            subst h1 h2
            exact hr
        have HF' := Lib.hid hf'
        have HRU' := Lib.hid hrun'
        have HL' : Hid (hleft ts.length k' s' < gk) := Lib.hid (Nat.lt_of_lt_of_le hlt HL.out)
        clear hs hf' hlt hrun'
        rcases k with _ | _ | _ | _
        all_goals dsimp only [fnOf] at k5 HC
        all_goals
          go_wp2_with fail
          refine HC.out.mono ?_
          rintro e w2 ⟨rfl, vp', qs', hb', hr'⟩
          have HB' := Lib.hid hb'
          have HR' := Lib.hid hr'
          clear hb' hr'
          go_wp2_with fail
          go_roundg (hleft ts.length k' s')
          case measure => exact HL'.out
          case rel => exact ⟨k', s', vp', qs', HB', HR', HF', HRU', Lib.hid (Nat.le_refl _)⟩
      | inr p =>
        obtain ⟨i, cd⟩ := p
        rw [hs] at HC
        have hres : r = .inr (i, cd) := by
          have := HRU.out
          cases this with
          | bad _ _ _ h =>
            rw [hs] at h
            injection h with h
            rw [h]
          | go _ _ _ _ _ h hr =>
            rw [hs] at h
            cases h
        subst hres
        clear hs
        rcases k with _ | _ | _ | _
        all_goals dsimp only [fnOf] at k5 HC
        all_goals
          go_wp2_with fail
          refine HC.out.mono ?_
          rintro e w2 ⟨b, rfl, hbs, hbk, hb2⟩
          have hRb := (HRB.out.below hb2 HRB.out.lt)
          have x0 : w2.cell? ⟨w.heap.size, 0, none⟩ = some (.string ⟨#[]⟩) := hRb.cell 0
          have x1 : w2.cell? ⟨w.heap.size, 1, none⟩ = some (.slice none 0 0) := hRb.cell 1
          have x2 : w2.cell? ⟨w.heap.size, 2, none⟩ = some (.slice none 0 0) := hRb.cell 2
          have z0 := hRb.frozen 0
          have z1 := hRb.frozen 1
          have z2 := hRb.frozen 2
          have HBK2 := Lib.hid hbk
          have HBW : Hid (Below w.heap.size w w2) := Lib.hid (HB0.out.trans (hb2.mono HB0.out.size))
          have hne : Hid (b ≠ w.heap.size) := Lib.hid (by have := HSZ.out; omega)
          have hge : Hid (w.heap.size ≤ b) := Lib.hid (by have := HSZ.out; omega)
          clear hRb hbs hbk hb2
          go_wp2_with fail
          exact bodyPost_ret (v := .tuple #[.agg #[.string ⟨#[]⟩, .slice none 0 0, .slice none 0 0], .iface 107 (.pointer (some ⟨b, 0, none⟩))]) (by simp [results, Tryd.results16, go_sem, x0, x1, x2]) rfl ⟨b, rfl, hge.out, ((HBK2.out.far hne.out _).far hne.out _).far hne.out _, ((HBW.out.setCell (Nat.le_refl _) _).setCell (Nat.le_refl _) _).setCell (Nat.le_refl _) _⟩
end Go.Proofs.YtbhfblogjlpnlabDoor
