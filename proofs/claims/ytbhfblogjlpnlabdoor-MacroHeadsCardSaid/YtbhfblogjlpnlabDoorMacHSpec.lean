/-
  Heads of macros, on lists of tokens: what is read step by step. No program's contract.
-/
import Derived.Test.YtbhfblogjlpnlabDoorMacTok
namespace Go.Proofs.YtbhfblogjlpnlabDoor

/-- A parameter of a head: its name; whether it has a default, and which. -/
structure HPar where
  name : ByteArray
  has : Bool
  dflt : List Tk6
/-- How far a head is read, and what of it. -/
structure HState where
  at_ : Nat
  name : ByteArray
  ps : List HPar
/-- What is read next. -/
inductive HKind
  | name
  | param
  | behind
  | value

def Tk6.dotted (t : Tk6) : Bool := (t.text.data.toList.take 1 == [46])
def HPar.named (n : ByteArray) (p : HPar) : Bool := p.name.toList == n.toList
def hasPar (ps : List HPar) (n : ByteArray) : Bool := ps.any (HPar.named n)

def nameStep (ts : List Tk6) (s : HState) : (Option HKind × HState) ⊕ (Nat × Int) :=
  match ts[s.at_]? with
  | none => .inr (s.at_, 5)
  | some t => if t.kind = 1 then (if t.dotted = true then .inr (s.at_, 8) else .inl (if s.at_ + 1 < ts.length then some .param else none, ⟨s.at_ + 1, t.text, s.ps⟩)) else .inr (s.at_, 5)
def paramStep (ts : List Tk6) (s : HState) : (Option HKind × HState) ⊕ (Nat × Int) :=
  match ts[s.at_]? with
  | none => .inr (s.at_, 5)
  | some t => if t.kind = 1 then (if hasPar s.ps t.text = true then .inr (s.at_, 10) else .inl (if s.at_ + 1 < ts.length then some .behind else none, ⟨s.at_ + 1, s.name, s.ps ++ [⟨t.text, false, []⟩]⟩)) else .inr (s.at_, 5)
def behindStep (ts : List Tk6) (s : HState) : (Option HKind × HState) ⊕ (Nat × Int) :=
  match ts[s.at_]? with
  | none => .inr (s.at_, 5)
  | some t => if t.isM ⟨#[44]⟩ = true then .inl (some .param, ⟨s.at_ + 1, s.name, s.ps⟩) else if t.isM ⟨#[61]⟩ = true then .inl (some .value, ⟨s.at_ + 1, s.name, s.ps⟩) else .inr (s.at_, 5)
/-- The last parameter, with a default. -/
def withLast (ps : List HPar) (d : List Tk6) : List HPar :=
  match ps.getLast? with
  | none => ps
  | some p => ps.dropLast ++ [⟨p.name, true, d⟩]
def valueStep (ts : List Tk6) (s : HState) : (Option HKind × HState) ⊕ (Nat × Int) :=
  .inl (if s.at_ + partEnd Tk6.mk3 0 (ts.drop s.at_) < ts.length then some .behind else none, ⟨s.at_ + partEnd Tk6.mk3 0 (ts.drop s.at_), s.name, withLast s.ps ((ts.drop s.at_).take (partEnd Tk6.mk3 0 (ts.drop s.at_)))⟩)
def hstep (ts : List Tk6) (k : HKind) (s : HState) : (Option HKind × HState) ⊕ (Nat × Int) :=
  match k with
  | .name => nameStep ts s
  | .param => paramStep ts s
  | .behind => behindStep ts s
  | .value => valueStep ts s

/-- A head is read to its end. -/
inductive HRun (ts : List Tk6) : Option HKind → HState → HState ⊕ (Nat × Int) → Prop
  | done (s : HState) : HRun ts none s (.inl s)
  | bad (k : HKind) (s : HState) (e : Nat × Int) (h : hstep ts k s = .inr e) : HRun ts (some k) s (.inr e)
  | go (k : HKind) (s s' : HState) (k' : Option HKind) (r : HState ⊕ (Nat × Int)) (h : hstep ts k s = .inl (k', s')) (hr : HRun ts k' s' r) : HRun ts (some k) s r

/-- How much is left to be read. -/
def hleft (n : Nat) (k : Option HKind) (s : HState) : Nat :=
  match k with
  | none => 0
  | some .value => 2 * (n + 1 - s.at_) + 2
  | some _ => 2 * (n + 1 - s.at_) + 1

/-- What holds of what is read: how far at the most, and that a default has its parameter. -/
structure HFit (ts : List Tk6) (k : Option HKind) (s : HState) : Prop where
  le : k = some .name ∨ s.at_ ≤ ts.length
  le1 : s.at_ ≤ ts.length + 1
  behind : k = some .behind → s.at_ < ts.length
  value : k = some .value → s.ps ≠ []
  behindp : k = some .behind → s.ps ≠ []
  few : s.ps.length ≤ s.at_

theorem withLast_len (ps : List HPar) (d : List Tk6) : (withLast ps d).length = ps.length := by
  unfold withLast
  cases h : ps.getLast? with
  | none => rfl
  | some p =>
    have hne : ps ≠ [] := fun h0 => by rw [h0] at h; cases h
    have := List.length_pos_iff.2 hne
    simp only [List.length_append, List.length_dropLast, List.length_singleton]
    omega

theorem hstep_fit {ts : List Tk6} {k : HKind} {s s' : HState} {k' : Option HKind} (hf : HFit ts (some k) s) (h : hstep ts k s = .inl (k', s')) : HFit ts k' s' ∧ hleft ts.length k' s' < hleft ts.length (some k) s := by
  cases k with
  | name =>
    simp only [hstep, nameStep] at h
    split at h
    · cases h
    · rename_i t ht
      have hlt := (List.getElem?_eq_some_iff.1 ht).1
      have hfew := hf.few
      split at h
      · split at h
        · cases h
        · injection h with h
          injection h with h1 h2
          subst h1 h2
          refine ⟨⟨.inr (by simp only; omega), by simp only; omega, ?_, ?_, ?_, by simp only; omega⟩, ?_⟩
          · intro h0
            split at h0 <;> cases h0
          · intro h0
            split at h0 <;> cases h0
          · intro h0
            split at h0 <;> cases h0
          · split <;> simp only [hleft] <;> omega
      · cases h
  | param =>
    simp only [hstep, paramStep] at h
    split at h
    · cases h
    · rename_i t ht
      have hlt := (List.getElem?_eq_some_iff.1 ht).1
      have hfew := hf.few
      split at h
      · split at h
        · cases h
        · injection h with h
          injection h with h1 h2
          subst h1 h2
          refine ⟨⟨.inr (by simp only; omega), by simp only; omega, ?_, ?_, ?_, by simp; omega⟩, ?_⟩
          · intro h0
            split at h0
            · rename_i h1
              exact h1
            · cases h0
          · intro h0
            split at h0 <;> cases h0
          · intro _
            simp
          · split <;> simp only [hleft] <;> omega
      · cases h
  | behind =>
    simp only [hstep, behindStep] at h
    have hps := hf.behindp rfl
    split at h
    · cases h
    · rename_i t ht
      have hlt := (List.getElem?_eq_some_iff.1 ht).1
      have hfew := hf.few
      split at h
      · injection h with h
        injection h with h1 h2
        subst h1 h2
        exact ⟨⟨.inr (by simp only; omega), by simp only; omega, nofun, nofun, nofun, by simp only; omega⟩, by simp only [hleft]; omega⟩
      · split at h
        · injection h with h
          injection h with h1 h2
          subst h1 h2
          exact ⟨⟨.inr (by simp only; omega), by simp only; omega, nofun, fun _ => hps, nofun, by simp only; omega⟩, by simp only [hleft]; omega⟩
        · cases h
  | value =>
    simp only [hstep, valueStep] at h
    have hps := hf.value rfl
    have hle := partEnd_le Tk6.mk3 0 (ts.drop s.at_)
    have hl := hf.le.resolve_left nofun
    have hfew := hf.few
    rw [List.length_drop] at hle
    injection h with h
    injection h with h1 h2
    subst h1 h2
    refine ⟨⟨.inr (by simp only; omega), by simp only; omega, ?_, ?_, ?_, by simp only [withLast_len]; omega⟩, ?_⟩
    · intro h0
      split at h0
      · rename_i h1
        exact h1
      · cases h0
    · intro h0
      split at h0 <;> cases h0
    · intro _ h0
      have := withLast_len s.ps ((ts.drop s.at_).take (partEnd Tk6.mk3 0 (ts.drop s.at_)))
      simp only at h0
      rw [h0] at this
      exact hps (List.eq_nil_of_length_eq_zero this.symm)
    · split <;> simp only [hleft] <;> omega

theorem hrun_all (ts : List Tk6) : ∀ (n : Nat) (k : Option HKind) (s : HState), HFit ts k s → hleft ts.length k s ≤ n → ∃ r, HRun ts k s r := by
  intro n
  induction n with
  | zero =>
    intro k s hf h
    cases k with
    | none => exact ⟨_, .done s⟩
    | some k => cases k <;> simp only [hleft] at h <;> omega
  | succ n ih =>
    intro k s hf h
    cases k with
    | none => exact ⟨_, .done s⟩
    | some k =>
      cases hs : hstep ts k s with
      | inr e => exact ⟨_, .bad k s e hs⟩
      | inl p =>
        obtain ⟨k', s'⟩ := p
        obtain ⟨hf', hlt⟩ := hstep_fit hf hs
        obtain ⟨r, hr⟩ := ih k' s' hf' (by omega)
        exact ⟨r, .go k s s' k' r hs hr⟩

theorem hrun_one {ts : List Tk6} {k : Option HKind} {s : HState} {r r' : HState ⊕ (Nat × Int)} (h : HRun ts k s r) (g : HRun ts k s r') : r = r' := by
  induction h generalizing r' with
  | done s =>
    cases g
    rfl
  | bad k s e h =>
    cases g with
    | bad _ _ _ h2 =>
      rw [h] at h2
      injection h2 with h2
      rw [h2]
    | go _ _ _ _ _ h2 _ =>
      rw [h] at h2
      cases h2
  | go k s s' k' r h hr ih =>
    cases g with
    | bad _ _ _ h2 =>
      rw [h] at h2
      cases h2
    | go _ _ _ _ _ h2 hr2 =>
      rw [h] at h2
      injection h2 with h2
      injection h2 with h2 h3
      subst h2 h3
      exact ih hr2

/-- How a head begins. -/
def headStart : HState := ⟨1, ByteArray.empty, []⟩
theorem headStart_fit (ts : List Tk6) : HFit ts (some .name) headStart := ⟨.inl rfl, by simp [headStart], nofun, nofun, nofun, Nat.zero_le _⟩

/-- Where a fault lies: at a token, or at the last one. -/
def placeAt (ts : List Tk6) (i : Nat) : Int × Int :=
  match ts[i]? with
  | some t => (t.line, t.col)
  | none => match ts.getLast? with
    | some t => (t.line, t.col)
    | none => (0, 0)
end Go.Proofs.YtbhfblogjlpnlabDoor
