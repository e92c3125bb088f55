/-
  What the reference's Head goes by: the steps of a head, one by one; what holds while its parameters are read. No program's contract.
-/
import Derived.Test.YtbhfblogjlpnlabDoorMacHead
import Derived.Test.YtbhfblogjlpnlabDoorMacRAt
import Derived.Test.YtbhfblogjlpnlabDoorMacFill
namespace Go.Proofs.YtbhfblogjlpnlabDoor
open Go.RowKit

theorem hrun_step {ts : List Tk6} {k : HKind} {s : HState} {r : HState ⊕ (Nat × Int)} (h : HRun ts (some k) s r) : (∀ e, hstep ts k s = .inr e → r = .inr e) ∧ (∀ k' s', hstep ts k s = .inl (k', s') → HRun ts k' s' r) := by
  cases h with
  | bad _ _ e h =>
    refine ⟨fun e' h' => ?_, fun k' s' h' => ?_⟩
    · rw [h] at h'
      injection h' with h'
      rw [h']
    · rw [h] at h'
      cases h'
  | go _ _ s1 k1 _ h hr =>
    refine ⟨fun e' h' => ?_, fun k' s' h' => ?_⟩
    · rw [h] at h'
      cases h'
    · rw [h] at h'
      injection h' with h'
      injection h' with h1 h2
      subst h1 h2
      exact hr
theorem hrun_done {ts : List Tk6} {s : HState} {r : HState ⊕ (Nat × Int)} (h : HRun ts none s r) : r = .inl s := by
  cases h
  rfl
theorem name_bad {ts : List Tk6} {i : Nat} {n : ByteArray} {ps : List HPar} (h : nameAt ts i = false) : hstep ts .name ⟨i, n, ps⟩ = .inr (i, 5) := by
  unfold nameAt at h
  show nameStep ts ⟨i, n, ps⟩ = _
  unfold nameStep
  simp only
  split at h
  · rename_i t ht
    rw [ht]
    have : ¬ t.kind = 1 := by simpa using h
    simp only [if_neg this]
  · rename_i ht
    rw [ht]
theorem name_dot {ts : List Tk6} {i : Nat} {n : ByteArray} {ps : List HPar} {t : Tk6} (ht : ts[i]? = some t) (hk : t.kind = 1) (hd : t.dotted = true) : hstep ts .name ⟨i, n, ps⟩ = .inr (i, 8) := by
  show nameStep ts ⟨i, n, ps⟩ = _
  unfold nameStep
  simp only [ht]
  rw [if_pos hk, if_pos hd]
theorem name_ok {ts : List Tk6} {i : Nat} {n : ByteArray} {ps : List HPar} {t : Tk6} (ht : ts[i]? = some t) (hk : t.kind = 1) (hd : t.dotted = false) : hstep ts .name ⟨i, n, ps⟩ = .inl (if i + 1 < ts.length then some .param else none, ⟨i + 1, t.text, ps⟩) := by
  show nameStep ts ⟨i, n, ps⟩ = _
  unfold nameStep
  simp only [ht]
  rw [if_pos hk, if_neg (by rw [hd]; decide)]
theorem param_bad {ts : List Tk6} {i : Nat} {n : ByteArray} {ps : List HPar} (h : nameAt ts i = false) : hstep ts .param ⟨i, n, ps⟩ = .inr (i, 5) := by
  unfold nameAt at h
  show paramStep ts ⟨i, n, ps⟩ = _
  unfold paramStep
  simp only
  split at h
  · rename_i t ht
    rw [ht]
    have : ¬ t.kind = 1 := by simpa using h
    simp only [if_neg this]
  · rename_i ht
    rw [ht]
theorem param_dup {ts : List Tk6} {i : Nat} {n : ByteArray} {ps : List HPar} {t : Tk6} (ht : ts[i]? = some t) (hk : t.kind = 1) (hd : hasPar ps t.text = true) : hstep ts .param ⟨i, n, ps⟩ = .inr (i, 10) := by
  show paramStep ts ⟨i, n, ps⟩ = _
  unfold paramStep
  simp only [ht]
  rw [if_pos hk, if_pos hd]
theorem param_ok {ts : List Tk6} {i : Nat} {n : ByteArray} {ps : List HPar} {t : Tk6} (ht : ts[i]? = some t) (hk : t.kind = 1) (hd : hasPar ps t.text = false) : hstep ts .param ⟨i, n, ps⟩ = .inl (if i + 1 < ts.length then some .behind else none, ⟨i + 1, n, ps ++ [⟨t.text, false, []⟩]⟩) := by
  show paramStep ts ⟨i, n, ps⟩ = _
  unfold paramStep
  simp only [ht]
  rw [if_pos hk, if_neg (by rw [hd]; decide)]
theorem behind_comma {ts : List Tk6} {i : Nat} {n : ByteArray} {ps : List HPar} {t : Tk6} (ht : ts[i]? = some t) (h : t.isM ⟨#[44]⟩ = true) : hstep ts .behind ⟨i, n, ps⟩ = .inl (some .param, ⟨i + 1, n, ps⟩) := by
  show behindStep ts ⟨i, n, ps⟩ = _
  unfold behindStep
  simp only [ht]
  rw [if_pos h]
theorem behind_eq {ts : List Tk6} {i : Nat} {n : ByteArray} {ps : List HPar} {t : Tk6} (ht : ts[i]? = some t) (h : t.isM ⟨#[44]⟩ = false) (h2 : t.isM ⟨#[61]⟩ = true) : hstep ts .behind ⟨i, n, ps⟩ = .inl (some .value, ⟨i + 1, n, ps⟩) := by
  show behindStep ts ⟨i, n, ps⟩ = _
  unfold behindStep
  simp only [ht]
  rw [if_neg (by rw [h]; decide), if_pos h2]
theorem behind_bad {ts : List Tk6} {i : Nat} {n : ByteArray} {ps : List HPar} {t : Tk6} (ht : ts[i]? = some t) (h : t.isM ⟨#[44]⟩ = false) (h2 : t.isM ⟨#[61]⟩ = false) : hstep ts .behind ⟨i, n, ps⟩ = .inr (i, 5) := by
  show behindStep ts ⟨i, n, ps⟩ = _
  unfold behindStep
  simp only [ht]
  rw [if_neg (by rw [h]; decide), if_neg (by rw [h2]; decide)]
theorem value_ok {ts : List Tk6} {i e : Nat} {n : ByteArray} {ps : List HPar} {p : HPar} (he : partEnd Tk6.mk3 0 (ts.drop i) = e) : hstep ts .value ⟨i, n, ps ++ [p]⟩ = .inl (if i + e < ts.length then some .behind else none, ⟨i + e, n, ps ++ [⟨p.name, true, (ts.drop i).take e⟩]⟩) := by
  subst he
  show valueStep ts ⟨i, n, ps ++ [p]⟩ = _
  unfold valueStep withLast
  simp
theorem partEnd_stop (m : Tk6 → Nat) : ∀ (o : Nat) (l : List Tk6), partEnd m o l < l.length → ∃ t, l[partEnd m o l]? = some t ∧ m t = 3
  | _, [], h => by simp at h
  | o, t :: r, h => by
    rw [partEnd] at h ⊢
    rw [List.length_cons] at h
    by_cases h1 : m t = 1
    · rw [if_pos h1] at h ⊢
      obtain ⟨u, hu, hm⟩ := partEnd_stop m (o + 1) r (by omega)
      exact ⟨u, by rw [Nat.add_comm]; simpa using hu, hm⟩
    · rw [if_neg h1] at h ⊢
      by_cases h2 : m t = 2
      · rw [if_pos h2] at h ⊢
        obtain ⟨u, hu, hm⟩ := partEnd_stop m (o - 1) r (by omega)
        exact ⟨u, by rw [Nat.add_comm]; simpa using hu, hm⟩
      · rw [if_neg h2] at h ⊢
        by_cases h3 : m t = 3 ∧ o = 0
        · rw [if_pos h3]
          exact ⟨t, rfl, h3.1⟩
        · rw [if_neg h3] at h ⊢
          obtain ⟨u, hu, hm⟩ := partEnd_stop m o r (by omega)
          exact ⟨u, by rw [Nat.add_comm]; simpa using hu, hm⟩
theorem mk3_comma {t : Tk6} (h : t.mk3 = 3) : t.isM ⟨#[44]⟩ = true := by
  unfold Tk6.mk3 at h
  split at h
  · cases h
  · split at h
    · cases h
    · split at h
      · assumption
      · cases h

theorem toks_cells {W : World} {b o n c : Nat} {ts : List Tk6} (h : Toks W (.slice (some ⟨b, o, none⟩) n c) ts) : ∀ q u, (cellsOf ts)[q]? = some u → W.cell? ⟨b, o + q, none⟩ = some u := by
  rcases h with ⟨_, _, _, _, rfl⟩ | ⟨b2, o2, c2, h1, _, _, _, h5⟩
  · intro q u h
    simp [cellsOf] at h
  · injection h1 with h1
    injection h1 with h1
    injection h1 with h1 h2
    subst h1 h2
    exact cellsOf_at ts W b o h5

/-- What holds while the reference reads parameters. -/
structure RInv (wB : World) (nm : ByteArray) (ps : List HPar) (vp : Value) (qs : List (HPar × Value)) (wr : World) : Prop where
  blk : Blk wr wB.heap.size 46 #[.string nm, vp, .slice none 0 0]
  eq : qs.map Prod.fst = ps
  own : wr.ownsRow (wB.heap.size + 1) 104 3 vp qs.length (parCells qs)
  rows : ∀ q ∈ qs, wr.ownsRow (wB.heap.size + 1) 56 6 q.2 q.1.dflt.length (cellsOf q.1.dflt)
  below : Below wB.heap.size wB wr
section
variable {wB w w' : World} {nm : ByteArray} {ps : List HPar} {vp : Value} {qs : List (HPar × Value)}
theorem RInv.next (h : RInv wB nm ps vp qs w) (hb : Below w.heap.size w w') : RInv wB nm ps vp qs w' :=
  ⟨h.blk.below hb h.blk.lt, h.eq, own_below h.own hb, fun q hq => own_below (h.rows q hq) hb, h.below.trans (hb.mono h.below.size)⟩
theorem RInv.pars (h : RInv wB nm ps vp qs w) : Pars w vp ps := by
  rw [← h.eq]
  exact pars_of_own h.own rfl fun q hq => toks_of_own (h.rows q hq) rfl
theorem RInv.push {v' d : Value} {p : HPar} (h : RInv wB nm ps vp qs w) (hd : w.ownsRow (wB.heap.size + 1) 56 6 d p.dflt.length (cellsOf p.dflt))
    (hown : w'.ownsRow (wB.heap.size + 1) 104 3 v' (qs.length + 1) (parCells qs ++ [.string p.name, .bool p.has, d])) (hg : w.grownBy w' vp.ownBlock) : RInv wB nm (ps ++ [p]) v' (qs ++ [(p, d)]) (w'.setCell ⟨wB.heap.size, 1, none⟩ v') := by
  have hb : Blk w' wB.heap.size 46 #[.string nm, vp, .slice none 0 0] := blk_grown h.blk hg (own_not_head h.own h.blk (by decide))
  have hrow : ∀ q ∈ qs ++ [(p, d)], w'.ownsRow (wB.heap.size + 1) 56 6 q.2 q.1.dflt.length (cellsOf q.1.dflt) := by
    intro q hq
    rcases List.mem_append.1 hq with hq | hq
    · exact (h.rows q hq).kept hg (own_ne (h.rows q hq) h.own (by decide))
    · obtain rfl := List.mem_singleton.1 hq
      exact hd.kept hg (own_ne hd h.own (by decide))
  refine ⟨Blk.set hb 1 v', by rw [List.map_append, h.eq]; rfl, ?_, fun q hq => ownsRow_setCell_other (hrow q hq) (own_not_head (hrow q hq) hb (by decide)) v', (Below.grown h.below hg h.below.size (fun x hx => by have := (h.own.lt x hx).1; omega)).setCell (Nat.le_refl _) v'⟩
  rw [parCells_app, List.length_append]
  exact ownsRow_setCell_other hown (own_not_head hown hb (by decide)) v'
end

/-- Parameters of the call's own, wherever a macro of them lies. -/
structure ROwn (b : Nat) (ps : List HPar) (vp : Value) (qs : List (HPar × Value)) (w : World) : Prop where
  eq : qs.map Prod.fst = ps
  own : w.ownsRow b 104 3 vp qs.length (parCells qs)
  rows : ∀ q ∈ qs, w.ownsRow b 56 6 q.2 q.1.dflt.length (cellsOf q.1.dflt)
theorem RInv.rown {wB w : World} {nm : ByteArray} {ps : List HPar} {vp : Value} {qs : List (HPar × Value)} (h : RInv wB nm ps vp qs w) : ROwn (wB.heap.size + 1) ps vp qs w := ⟨h.eq, h.own, h.rows⟩
theorem ROwn.low {b : Nat} {ps : List HPar} {vp : Value} {qs : List (HPar × Value)} {w : World} (h : ROwn b ps vp qs w) {R i : Nat} (hR : R < b) (u : Value) : ROwn b ps vp qs (w.setCell ⟨R, i, none⟩ u) :=
  ⟨h.eq, ownsRow_setCell_below h.own hR u, fun q hq => ownsRow_setCell_below (h.rows q hq) hR u⟩
theorem ROwn.pars {b : Nat} {ps : List HPar} {vp : Value} {qs : List (HPar × Value)} {w : World} (h : ROwn b ps vp qs w) : Pars w vp ps := by
  rw [← h.eq]
  exact pars_of_own h.own rfl fun q hq => toks_of_own (h.rows q hq) rfl

/-- The answer of the reference's Head. -/
def RHeadOut (w : World) (ts : List Tk6) (r : HState ⊕ (Nat × Int)) (e : Ending) (w' : World) : Prop :=
  match r with
  | .inl s => ∃ vp, e = .returned (.tuple #[.agg #[.string s.name, vp, .slice none 0 0], .agg #[.int .i64 0, .int .i64 0, .int .i64 0]]) ∧ Pars w' vp s.ps ∧ Below w.heap.size w w'
  | .inr (i, c) => e = .returned (.tuple #[.agg #[.string ⟨#[]⟩, .slice none 0 0, .slice none 0 0], .agg #[.int .i64 (placeAt ts i).1, .int .i64 (placeAt ts i).2, .int .i64 c]]) ∧ Below w.heap.size w w'
end Go.Proofs.YtbhfblogjlpnlabDoor
