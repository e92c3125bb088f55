/-
  Expressions as the reference reads them, with a stack of what waits; what is read so is what is read by parts. No program's contract.
-/
import Derived.Test.YtbhfblogjlpnlaaDoorExSpec
namespace Go.Proofs.YtbhfblogjlpnlaaDoor

/-- What waits. -/
structure Wt where
  n : Nd
  how : Nat
  opn : Bool
def Wt.deep (w : Wt) : Bool := w.opn || w.how == 7
def deepOf (S : List Wt) : Nat := (S.filter Wt.deep).length
/-- No node. -/
def noNd : Nd := ⟨0, 0, 0, 0, ⟨#[]⟩⟩
/-- What a token opens. -/
def Tk6.wait (t : Tk6) (k : Option Int) : EKind → Wt
  | .part => ⟨(match k with | some k => t.node k | none => noNd), 7, false⟩
  | _ => ⟨(match k with | some k => t.node k | none => noNd), 0, true⟩
def esize : EKind → Nat
  | .argument => 2
  | _ => 1
def tightAt (ts : List Tk6) (i : Nat) : Nat := match ts[i]? with
  | some t => t.tight
  | none => 0
/-- What is added where it closes. -/
def Wt.adds (w : Wt) : List Nd := if 0 < w.n.kind then [w.n] else []
/-- What lies on top doesn't bind so tightly. -/
def topLow (S : List Wt) (l : Nat) : Prop := ∀ w, S.getLast? = some w → w.opn = true ∨ w.how < l

inductive MRun (ts : List Tk6) : Bool → Nat → List Nd → List Wt → (Nat × List Nd) ⊕ (Nat × Int) → Prop
  | none (i : Nat) (out : List Nd) (S : List Wt) (h : ts[i]? = none) : MRun ts true i out S (.inr (i, 6))
  | leaf (i : Nat) (out : List Nd) (S : List Wt) (t : Tk6) (n : Nd) (r : (Nat × List Nd) ⊕ (Nat × Int)) (h : ts[i]? = some t) (hl : t.leaf = some n) (hr : MRun ts false (i + 1) (out ++ [n]) S r) : MRun ts true i out S r
  | bad (i : Nat) (out : List Nd) (S : List Wt) (t : Tk6) (h : ts[i]? = some t) (hl : t.leaf = none) (hf : t.first = none) : MRun ts true i out S (.inr (i, 6))
  | deep (i : Nat) (out : List Nd) (S : List Wt) (t : Tk6) (k : Option Int) (q : EKind) (h : ts[i]? = some t) (hl : t.leaf = none) (hf : t.first = some (k, q)) (hd : 32 ≤ deepOf S) : MRun ts true i out S (.inr (i, 14))
  | noArg (i : Nat) (out : List Nd) (S : List Wt) (t : Tk6) (k : Option Int) (h : ts[i]? = some t) (hl : t.leaf = none) (hf : t.first = some (k, .argument)) (hd : deepOf S < 32) (hm : markAt ts (i + 1) ⟨#[40]⟩ = false) : MRun ts true i out S (.inr (i + 1, 6))
  | push (i : Nat) (out : List Nd) (S : List Wt) (t : Tk6) (k : Option Int) (q : EKind) (r : (Nat × List Nd) ⊕ (Nat × Int)) (h : ts[i]? = some t) (hl : t.leaf = none) (hf : t.first = some (k, q)) (hd : deepOf S < 32) (hm : q = .argument → markAt ts (i + 1) ⟨#[40]⟩ = true) (hr : MRun ts true (i + esize q) out (S ++ [t.wait k q]) r) : MRun ts true i out S r
  | pop (i : Nat) (out : List Nd) (S : List Wt) (w : Wt) (r : (Nat × List Nd) ⊕ (Nat × Int)) (ho : w.opn = false) (hh : tightAt ts i ≤ w.how) (hr : MRun ts false i (out ++ [w.n]) S r) : MRun ts false i out (S ++ [w]) r
  | two (i : Nat) (out : List Nd) (S : List Wt) (t : Tk6) (r : (Nat × List Nd) ⊕ (Nat × Int)) (h : ts[i]? = some t) (h0 : 0 < t.tight) (hS : topLow S t.tight) (hr : MRun ts true (i + 1) out (S ++ [⟨t.node (twoKind t.text), t.tight, false⟩]) r) : MRun ts false i out S r
  | done (i : Nat) (out : List Nd) (h : tightAt ts i = 0) : MRun ts false i out [] (.inl (i, out))
  | open_ (i : Nat) (out : List Nd) (S : List Wt) (w : Wt) (h : tightAt ts i = 0) (ho : w.opn = true) (hm : markAt ts i ⟨#[41]⟩ = false) : MRun ts false i out (S ++ [w]) (.inr (i, 6))
  | close (i : Nat) (out : List Nd) (S : List Wt) (w : Wt) (r : (Nat × List Nd) ⊕ (Nat × Int)) (h : tightAt ts i = 0) (ho : w.opn = true) (hm : markAt ts i ⟨#[41]⟩ = true) (hr : MRun ts false (i + 1) (out ++ w.adds) S r) : MRun ts false i out (S ++ [w]) r

theorem leaf_first {t : Tk6} {k : Option Int} {q : EKind} (h : t.first = some (k, q)) : t.leaf = none := by
  have h7 : t.kind = 7 ∨ t.kind = 4 := by
    unfold Tk6.first Tk6.isM at h
    split at h
    · rename_i h1; simp at h1; exact .inl h1.1
    · split at h
      · rename_i h1; simp at h1; exact .inl h1.1
      · split at h
        · rename_i h1; exact .inr h1
        · split at h
          · rename_i h1; simp at h1; exact .inl h1.1
          · cases h
  unfold Tk6.leaf
  rw [if_neg (by omega), if_neg (by omega), if_neg (by omega)]
theorem tight_le (t : Tk6) : t.tight ≤ 6 := by
  unfold Tk6.tight
  repeat' split
  all_goals omega
theorem tightAt_le (ts : List Tk6) (i : Nat) : tightAt ts i ≤ 6 := by
  unfold tightAt
  split
  · exact tight_le _
  · omega
theorem deepOf_app (S : List Wt) (w : Wt) : deepOf (S ++ [w]) = deepOf S + if w.deep then 1 else 0 := by
  unfold deepOf
  rw [List.filter_append, List.length_append]
  cases h : w.deep <;> simp [h]
theorem topLow_app (S : List Wt) (w : Wt) (l : Nat) (h : w.opn = true ∨ w.how < l) : topLow (S ++ [w]) l := by
  intro x hx
  rw [List.getLast?_append] at hx
  simp at hx
  subst hx
  exact h
theorem tight_mark {t : Tk6} (h : t.isM ⟨#[41]⟩ = true) : t.tight = 0 := by
  have h2 : t.text.toList = [41] := by
    unfold Tk6.isM at h
    simp only [Bool.and_eq_true, beq_iff_eq] at h
    rw [h.2, ByteArray.toList_eq]
  unfold Tk6.tight isT
  rw [h2]
  split <;> rfl
theorem funcKind_pos (s : ByteArray) : 0 < funcKind s := by
  unfold funcKind
  repeat' split
  all_goals decide
theorem wait_adds {t : Tk6} {k : Option Int} {q : EKind} (h : t.first = some (k, q)) : (t.wait k q).adds = t.nodes k := by
  unfold Tk6.first at h
  split at h
  · injection h with h; injection h with h1 h2; subst h1 h2; rfl
  · split at h
    · injection h with h; injection h with h1 h2; subst h1 h2; rfl
    · split at h
      · injection h with h; injection h with h1 h2; subst h1 h2
        show (if 0 < funcKind t.text then _ else _) = _
        rw [if_pos (funcKind_pos _)]
        rfl
      · split at h
        · injection h with h; injection h with h1 h2; subst h1 h2; rfl
        · cases h
theorem wait_part {t : Tk6} {k : Option Int} (h : t.first = some (k, .part)) : [(t.wait k .part).n] = t.nodes k := by
  unfold Tk6.first at h
  split at h
  · injection h with h; injection h with h1 h2; subst h1; rfl
  · split at h
    · injection h with h; injection h with h1 h2; subst h1; rfl
    · split at h
      · injection h with h; injection h with h1 h2; cases h2
      · split at h
        · injection h with h; injection h with h1 h2; cases h2
        · cases h

/-- What the stack's reading does where the reading by parts is so. -/
def ESim (ts : List Tk6) (q : EKind) (d i : Nat) (ns : List Nd) (r : (Nat × List Nd) ⊕ (Nat × Int)) : Prop :=
  match q with
  | .part => ∀ S, deepOf S = d → match r with
    | .inl (j, ns') => ∀ R, MRun ts false j ns' S R → MRun ts true i ns S R
    | .inr e => MRun ts true i ns S (.inr e)
  | .bound l => ∀ S, deepOf S = d → topLow S l → match r with
    | .inl (j, ns') => tightAt ts j < l ∧ ∀ R, MRun ts false j ns' S R → MRun ts true i ns S R
    | .inr e => MRun ts true i ns S (.inr e)
  | .more l => ∀ S, deepOf S = d → topLow S l → match r with
    | .inl (j, ns') => tightAt ts j < l ∧ ∀ R, MRun ts false j ns' S R → MRun ts false i ns S R
    | .inr e => MRun ts false i ns S (.inr e)
  | .closed => ∀ S w, w.opn = true → deepOf (S ++ [w]) = d → match r with
    | .inl (j, ns') => ∀ R, MRun ts false j (ns' ++ w.adds) S R → MRun ts true i ns (S ++ [w]) R
    | .inr e => MRun ts true i ns (S ++ [w]) (.inr e)
  | .argument => (markAt ts i ⟨#[40]⟩ = false ∧ r = .inr (i, 6)) ∨ (markAt ts i ⟨#[40]⟩ = true ∧ ∀ S w, w.opn = true → deepOf (S ++ [w]) = d → match r with
    | .inl (j, ns') => ∀ R, MRun ts false j (ns' ++ w.adds) S R → MRun ts true (i + 1) ns (S ++ [w]) R
    | .inr e => MRun ts true (i + 1) ns (S ++ [w]) (.inr e))

theorem erun_sim {ts : List Tk6} {q : EKind} {d i : Nat} {ns : List Nd} {r : (Nat × List Nd) ⊕ (Nat × Int)} (h : ERun ts q d i ns r) : (∀ l, q = .bound l ∨ q = .more l → 1 ≤ l) → ESim ts q d i ns r := by
  induction h with
  | none d i ns h => exact fun _ S _ => .none i ns S h
  | leaf d i ns t n h hf hl => exact fun _ S _ R hR => .leaf i ns S t n R h hl hR
  | bad d i ns t h hf hl => exact fun _ S _ => .bad i ns S t h hl hf
  | deep d i ns t k q h hf hd => exact fun _ S hS => .deep i ns S t k q h (leaf_first hf) hf (by omega)
  | fell d i ns t k q e h hf hd hr ih =>
    intro _ S hS
    rcases first_kind hf with rfl | rfl | rfl
    · refine .push i ns S t k .part _ h (leaf_first hf) hf (by omega) nofun ?_
      exact ih (fun l h => by rcases h with h | h <;> cases h) _ (by rw [deepOf_app, hS]; rfl)
    · rcases ih (fun l h => by rcases h with h | h <;> cases h) with ⟨hm, he⟩ | ⟨hm, h2⟩
      · injection he with he
        subst he
        exact .noArg i ns S t k h (leaf_first hf) hf (by omega) hm
      · exact .push i ns S t k .argument _ h (leaf_first hf) hf (by omega) (fun _ => hm) (h2 S _ rfl (by rw [deepOf_app, hS]; rfl))
    · exact .push i ns S t k .closed _ h (leaf_first hf) hf (by omega) nofun (ih (fun l h => by rcases h with h | h <;> cases h) S _ rfl (by rw [deepOf_app, hS]; rfl))
  | ahead d i ns t k q j ns' h hf hd hr ih =>
    intro _ S hS R hR
    rcases first_kind hf with rfl | rfl | rfl
    · refine .push i ns S t k .part _ h (leaf_first hf) hf (by omega) nofun ?_
      refine ih (fun l h => by rcases h with h | h <;> cases h) _ (by rw [deepOf_app, hS]; rfl) R ?_
      refine .pop j ns' S _ R rfl (by have := tightAt_le ts j; show tightAt ts j ≤ 7; omega) ?_
      rw [wait_part hf]
      exact hR
    · rcases ih (fun l h => by rcases h with h | h <;> cases h) with ⟨hm, he⟩ | ⟨hm, h2⟩
      · cases he
      · exact .push i ns S t k .argument _ h (leaf_first hf) hf (by omega) (fun _ => hm) (h2 S _ rfl (by rw [deepOf_app, hS]; rfl) R (by rw [wait_adds hf]; exact hR))
    · exact .push i ns S t k .closed _ h (leaf_first hf) hf (by omega) nofun (ih (fun l h => by rcases h with h | h <;> cases h) S _ rfl (by rw [deepOf_app, hS]; rfl) R (by rw [wait_adds hf]; exact hR))
  | boundFell l d i ns e hr ih => exact fun _ S hS _ => ih (fun l h => by rcases h with h | h <;> cases h) S hS
  | bound l d i ns j ns' r hr hm ih1 ih2 =>
    intro hl S hS hT
    have h1 := ih1 (fun l h => by rcases h with h | h <;> cases h) S hS
    have h2 := ih2 (fun l' h => by rcases h with h | h <;> cases h; exact hl l (.inl rfl)) S hS hT
    rcases r with ⟨j', ns2⟩ | e
    · exact ⟨h2.1, fun R hR => h1 R (h2.2 R hR)⟩
    · exact h1 _ h2
  | done l d i ns h =>
    intro hl S hS hT
    refine ⟨?_, fun R hR => hR⟩
    have h0 := hl l (.inr rfl)
    unfold tightAt
    split
    · rename_i t ht
      exact h t ht
    · omega
  | moreFell l d i ns t e h hl hr ih =>
    intro hl1 S hS hT
    have h0 := hl1 l (.inr rfl)
    refine .two i ns S t _ h (by omega) (fun w hw => by rcases hT w hw with h | h; exact .inl h; exact .inr (by omega)) ?_
    exact ih (fun l' h => by rcases h with h | h <;> cases h; omega) _ (by
      rw [deepOf_app, hS]
      have := tight_le t
      have : (Wt.deep ⟨t.node (twoKind t.text), t.tight, false⟩) = false := by
        unfold Wt.deep
        simp
        omega
      rw [this]
      rfl) (topLow_app _ _ _ (.inr (Nat.lt_succ_self _)))
  | more l d i ns t j ns' r h hl hr hm ih1 ih2 =>
    intro hl1 S hS hT
    have h0 := hl1 l (.inr rfl)
    have h1 := ih1 (fun l' h => by rcases h with h | h <;> cases h; omega) (S ++ [⟨t.node (twoKind t.text), t.tight, false⟩]) (by
      rw [deepOf_app, hS]
      have := tight_le t
      have : (Wt.deep ⟨t.node (twoKind t.text), t.tight, false⟩) = false := by
        unfold Wt.deep
        simp
        omega
      rw [this]
      rfl) (topLow_app _ _ _ (.inr (Nat.lt_succ_self _)))
    have h2 := ih2 (fun l' h => by rcases h with h | h <;> cases h; omega) S hS hT
    have hgo : ∀ R, MRun ts false j (ns' ++ [t.node (twoKind t.text)]) S R → MRun ts false i ns S R := fun R hR => by
      refine .two i ns S t _ h (by omega) (fun w hw => by rcases hT w hw with h | h; exact .inl h; exact .inr (by omega)) ?_
      exact h1.2 R (.pop j ns' S _ R rfl (by have := h1.1; show tightAt ts j ≤ t.tight; omega) hR)
    rcases r with ⟨j', ns2⟩ | e
    · exact ⟨h2.1, fun R hR => hgo R (h2.2 R hR)⟩
    · exact hgo _ h2
  | closedFell d i ns e hr ih =>
    intro _ S w hw hS
    exact ih (fun l' h => by rcases h with h | h <;> cases h; decide) _ hS (topLow_app _ _ _ (.inl hw))
  | closedBad d i ns j ns' hr h ih =>
    intro _ S w hw hS
    have h1 := ih (fun l' h => by rcases h with h | h <;> cases h; decide) _ hS (topLow_app _ _ _ (.inl hw))
    exact h1.2 _ (.open_ j ns' S w (by have := h1.1; omega) hw h)
  | closed d i ns j ns' hr h ih =>
    intro _ S w hw hS R hR
    have h1 := ih (fun l' h => by rcases h with h | h <;> cases h; decide) _ hS (topLow_app _ _ _ (.inl hw))
    exact h1.2 _ (.close j ns' S w R (by have := h1.1; omega) hw h hR)
  | argumentBad d i ns h => exact fun _ => .inl ⟨h, rfl⟩
  | argument d i ns r h hr ih => exact fun _ => .inr ⟨h, ih (fun l h => by rcases h with h | h <;> cases h)⟩

/-- A whole reading. -/
theorem mrun_of {ts : List Tk6} {r : (Nat × List Nd) ⊕ (Nat × Int)} (h : ERun ts (.bound 1) 0 0 [] r) : MRun ts true 0 [] [] r := by
  have h1 := erun_sim h (fun l' h => by rcases h with h | h <;> cases h; decide) [] rfl (fun w hw => by cases hw)
  rcases r with ⟨j, ns⟩ | e
  · exact h1.2 _ (.done j ns (by have := h1.1; omega))
  · exact h1
end Go.Proofs.YtbhfblogjlpnlaaDoor
