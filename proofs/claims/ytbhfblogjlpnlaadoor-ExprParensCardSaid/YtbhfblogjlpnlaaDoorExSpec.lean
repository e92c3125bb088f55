/-
  Expressions, on lists of tokens: what is read of them, step by step; it always ends; how far it comes. No program's contract.
-/
import Derived.Test.YtbhfblogjlpnlaaDoorExTok
namespace Go.Proofs.YtbhfblogjlpnlaaDoor

/-- A node of an expression. -/
structure Nd where
  kind : Int
  line : Int
  col : Int
  num : Int
  name : ByteArray
def Nd.cells (n : Nd) : List Value := [.int .i64 n.kind, .int .i64 n.line, .int .i64 n.col, .int .u32 n.num, .string n.name]

/-- What is read. -/
inductive EKind
  | part
  | bound (least : Nat)
  | more (least : Nat)
  | argument
  | closed

def isT (s : ByteArray) (l : List UInt8) : Bool := s.toList == l
/-- How tightly a token binds. -/
def Tk6.tight (t : Tk6) : Nat :=
  if t.kind = 7 then
    (if isT t.text [42] || isT t.text [47] then 6 else if isT t.text [43] || isT t.text [45] then 5 else if isT t.text [60, 60] || isT t.text [62, 62] then 4 else if isT t.text [38] then 3 else if isT t.text [94] then 2 else if isT t.text [124] then 1 else 0)
  else 0
/-- The kind of node of a Mark between two parts. -/
def twoKind (s : ByteArray) : Int :=
  if isT s [124] then 17 else if isT s [94] then 16 else if isT s [38] then 15 else if isT s [60, 60] then 13 else if isT s [62, 62] then 14 else if isT s [43] then 9 else if isT s [45] then 10 else if isT s [42] then 11 else 12
/-- The kind of node of a Func. -/
def funcKind (s : ByteArray) : Int := if isT s [104, 105] then 6 else if isT s [108, 111] then 7 else 8
/-- A node without a number or a name. -/
def Tk6.node (t : Tk6) (k : Int) : Nd := ⟨k, t.line, t.col, 0, ⟨#[]⟩⟩
/-- What has no parts. -/
def Tk6.leaf (t : Tk6) : Option Nd :=
  if t.kind = 5 then some ⟨1, t.line, t.col, t.num, ⟨#[]⟩⟩
  else if t.kind = 1 then (if isT t.text [46] then some (t.node 3) else some ⟨2, t.line, t.col, 0, t.text⟩)
  else if t.kind = 2 then some ⟨2, t.line, t.col, 0, t.text ++ ⟨#[64, 48]⟩⟩ else none
/-- What stands ahead of a part: the kind of its node, if it has one, and what is read behind it. -/
def Tk6.first (t : Tk6) : Option (Option Int × EKind) :=
  if t.isM ⟨#[45]⟩ = true then some (some 4, .part) else if t.isM ⟨#[126]⟩ = true then some (some 5, .part)
  else if t.kind = 4 then some (some (funcKind t.text), .argument) else if t.isM ⟨#[40]⟩ = true then some (none, .closed) else none
def Tk6.nodes (t : Tk6) : Option Int → List Nd
  | none => []
  | some k => [t.node k]

/-- Is there this Mark? -/
def markAt (ts : List Tk6) (i : Nat) (s : ByteArray) : Bool := match ts[i]? with
  | some t => t.isM s
  | none => false

/-- What is read, so deep, from a token on, behind these nodes: where it ends, and the nodes; or where it can't go on, and why. -/
inductive ERun (ts : List Tk6) : EKind → Nat → Nat → List Nd → (Nat × List Nd) ⊕ (Nat × Int) → Prop
  | none (d i : Nat) (ns : List Nd) (h : ts[i]? = none) : ERun ts .part d i ns (.inr (i, 6))
  | leaf (d i : Nat) (ns : List Nd) (t : Tk6) (n : Nd) (h : ts[i]? = some t) (hf : t.first = none) (hl : t.leaf = some n) : ERun ts .part d i ns (.inl (i + 1, ns ++ [n]))
  | bad (d i : Nat) (ns : List Nd) (t : Tk6) (h : ts[i]? = some t) (hf : t.first = none) (hl : t.leaf = none) : ERun ts .part d i ns (.inr (i, 6))
  | deep (d i : Nat) (ns : List Nd) (t : Tk6) (k : Option Int) (q : EKind) (h : ts[i]? = some t) (hf : t.first = some (k, q)) (hd : 32 ≤ d) : ERun ts .part d i ns (.inr (i, 14))
  | fell (d i : Nat) (ns : List Nd) (t : Tk6) (k : Option Int) (q : EKind) (e : Nat × Int) (h : ts[i]? = some t) (hf : t.first = some (k, q)) (hd : d < 32) (hr : ERun ts q (d + 1) (i + 1) ns (.inr e)) : ERun ts .part d i ns (.inr e)
  | ahead (d i : Nat) (ns : List Nd) (t : Tk6) (k : Option Int) (q : EKind) (j : Nat) (ns' : List Nd) (h : ts[i]? = some t) (hf : t.first = some (k, q)) (hd : d < 32) (hr : ERun ts q (d + 1) (i + 1) ns (.inl (j, ns'))) : ERun ts .part d i ns (.inl (j, ns' ++ t.nodes k))
  | boundFell (l d i : Nat) (ns : List Nd) (e : Nat × Int) (hr : ERun ts .part d i ns (.inr e)) : ERun ts (.bound l) d i ns (.inr e)
  | bound (l d i : Nat) (ns : List Nd) (j : Nat) (ns' : List Nd) (r : (Nat × List Nd) ⊕ (Nat × Int)) (hr : ERun ts .part d i ns (.inl (j, ns'))) (hm : ERun ts (.more l) d j ns' r) : ERun ts (.bound l) d i ns r
  | done (l d i : Nat) (ns : List Nd) (h : ∀ t, ts[i]? = some t → t.tight < l) : ERun ts (.more l) d i ns (.inl (i, ns))
  | moreFell (l d i : Nat) (ns : List Nd) (t : Tk6) (e : Nat × Int) (h : ts[i]? = some t) (hl : l ≤ t.tight) (hr : ERun ts (.bound (t.tight + 1)) d (i + 1) ns (.inr e)) : ERun ts (.more l) d i ns (.inr e)
  | more (l d i : Nat) (ns : List Nd) (t : Tk6) (j : Nat) (ns' : List Nd) (r : (Nat × List Nd) ⊕ (Nat × Int)) (h : ts[i]? = some t) (hl : l ≤ t.tight) (hr : ERun ts (.bound (t.tight + 1)) d (i + 1) ns (.inl (j, ns'))) (hm : ERun ts (.more l) d j (ns' ++ [t.node (twoKind t.text)]) r) : ERun ts (.more l) d i ns r
  | closedFell (d i : Nat) (ns : List Nd) (e : Nat × Int) (hr : ERun ts (.bound 1) d i ns (.inr e)) : ERun ts .closed d i ns (.inr e)
  | closedBad (d i : Nat) (ns : List Nd) (j : Nat) (ns' : List Nd) (hr : ERun ts (.bound 1) d i ns (.inl (j, ns'))) (h : markAt ts j ⟨#[41]⟩ = false) : ERun ts .closed d i ns (.inr (j, 6))
  | closed (d i : Nat) (ns : List Nd) (j : Nat) (ns' : List Nd) (hr : ERun ts (.bound 1) d i ns (.inl (j, ns'))) (h : markAt ts j ⟨#[41]⟩ = true) : ERun ts .closed d i ns (.inl (j + 1, ns'))
  | argumentBad (d i : Nat) (ns : List Nd) (h : markAt ts i ⟨#[40]⟩ = false) : ERun ts .argument d i ns (.inr (i, 6))
  | argument (d i : Nat) (ns : List Nd) (r : (Nat × List Nd) ⊕ (Nat × Int)) (h : markAt ts i ⟨#[40]⟩ = true) (hr : ERun ts .closed d (i + 1) ns r) : ERun ts .argument d i ns r

theorem first_kind {t : Tk6} {k : Option Int} {q : EKind} (h : t.first = some (k, q)) : q = .part ∨ q = .argument ∨ q = .closed := by
  unfold Tk6.first at h
  split at h
  · injection h with h; injection h with _ h; exact .inl h.symm
  · split at h
    · injection h with h; injection h with _ h; exact .inl h.symm
    · split at h
      · injection h with h; injection h with _ h; exact .inr (.inl h.symm)
      · split at h
        · injection h with h; injection h with _ h; exact .inr (.inr h.symm)
        · cases h
theorem markAt_lt {ts : List Tk6} {i : Nat} {s : ByteArray} (h : markAt ts i s = true) : i < ts.length := by
  unfold markAt at h
  split at h
  · rename_i t ht
    exact (List.getElem?_eq_some_iff.1 ht).1
  · cases h

/-- How far a reading comes. -/
def EFar (ts : List Tk6) (q : EKind) (i : Nat) : (Nat × List Nd) ⊕ (Nat × Int) → Prop
  | .inl (j, _) => j ≤ ts.length ∧ match q with
    | .more _ => i ≤ j
    | _ => i < j
  | .inr (j, c) => j ≤ ts.length ∧ (c = 6 ∨ c = 14)
theorem erun_far {ts : List Tk6} {q : EKind} {d i : Nat} {ns : List Nd} {r : (Nat × List Nd) ⊕ (Nat × Int)} (h : ERun ts q d i ns r) : i ≤ ts.length → EFar ts q i r := by
  induction h with
  | none d i ns h => exact fun hi => ⟨hi, .inl rfl⟩
  | leaf d i ns t n h hf hl =>
    have := (List.getElem?_eq_some_iff.1 h).1
    exact fun _ => ⟨by omega, by simp⟩
  | bad d i ns t h hf hl => exact fun hi => ⟨hi, .inl rfl⟩
  | deep d i ns t k q h hf hd => exact fun hi => ⟨hi, .inr rfl⟩
  | fell d i ns t k q e h hf hd hr ih =>
    have := (List.getElem?_eq_some_iff.1 h).1
    exact fun _ => ih (by omega)
  | ahead d i ns t k q j ns' h hf hd hr ih =>
    have := (List.getElem?_eq_some_iff.1 h).1
    intro _
    have h2 := ih (by omega)
    rcases first_kind hf with rfl | rfl | rfl
    all_goals
      simp only [EFar] at h2 ⊢
      omega
  | boundFell l d i ns e hr ih => exact ih
  | bound l d i ns j ns' r hr hm ih1 ih2 =>
    intro hi
    have h1 := ih1 hi
    simp only [EFar] at h1
    have h2 := ih2 h1.1
    cases r with
    | inl p => simp only [EFar] at h2 ⊢; omega
    | inr p => exact h2
  | done l d i ns h => exact fun hi => ⟨hi, Nat.le_refl _⟩
  | moreFell l d i ns t e h hl hr ih =>
    have := (List.getElem?_eq_some_iff.1 h).1
    exact fun _ => ih (by omega)
  | more l d i ns t j ns' r h hl hr hm ih1 ih2 =>
    have := (List.getElem?_eq_some_iff.1 h).1
    intro _
    have h1 := ih1 (by omega)
    simp only [EFar] at h1
    have h2 := ih2 h1.1
    cases r with
    | inl p => simp only [EFar] at h2 ⊢; omega
    | inr p => exact h2
  | closedFell d i ns e hr ih => exact ih
  | closedBad d i ns j ns' hr h ih =>
    intro hi
    have h1 := ih hi
    simp only [EFar] at h1
    exact ⟨h1.1, .inl rfl⟩
  | closed d i ns j ns' hr h ih =>
    intro hi
    have h1 := ih hi
    have := markAt_lt h
    simp only [EFar] at h1 ⊢
    omega
  | argumentBad d i ns h => exact fun hi => ⟨hi, .inl rfl⟩
  | argument d i ns r h hr ih =>
    have := markAt_lt h
    intro _
    have h1 := ih (by omega)
    cases r with
    | inl p => simp only [EFar] at h1 ⊢; omega
    | inr p => exact h1

/-- How much is left. -/
def eleft (n : Nat) (q : EKind) (i : Nat) : Nat := 4 * (n + 1 - i) + match q with
  | .bound _ => 1
  | .closed => 2
  | _ => 0

theorem erun_all (ts : List Tk6) : ∀ (n : Nat) (q : EKind) (d i : Nat) (ns : List Nd), i ≤ ts.length → eleft ts.length q i ≤ n → ∃ r, ERun ts q d i ns r := by
  intro n
  induction n with
  | zero =>
    intro q d i ns hi h
    cases q <;> simp only [eleft] at h <;> omega
  | succ n ih =>
    intro q d i ns hi h
    cases q with
    | part =>
      cases ht : ts[i]? with
      | none => exact ⟨_, .none d i ns ht⟩
      | some t =>
        have hil := (List.getElem?_eq_some_iff.1 ht).1
        cases hf : t.first with
        | none =>
          cases hl : t.leaf with
          | none => exact ⟨_, .bad d i ns t ht hf hl⟩
          | some m => exact ⟨_, .leaf d i ns t m ht hf hl⟩
        | some p =>
          obtain ⟨k, q⟩ := p
          by_cases hd : 32 ≤ d
          · exact ⟨_, .deep d i ns t k q ht hf hd⟩
          · have hlt : eleft ts.length q (i + 1) ≤ n := by
              rcases first_kind hf with rfl | rfl | rfl
              all_goals
                simp only [eleft] at h ⊢
                omega
            obtain ⟨r, hr⟩ := ih q (d + 1) (i + 1) ns (by omega) hlt
            rcases r with ⟨j, ns'⟩ | e
            · exact ⟨_, .ahead d i ns t k q j ns' ht hf (by omega) hr⟩
            · exact ⟨_, .fell d i ns t k q e ht hf (by omega) hr⟩
    | bound l =>
      obtain ⟨r, hr⟩ := ih .part d i ns hi (by simp only [eleft] at h ⊢; omega)
      rcases r with ⟨j, ns'⟩ | e
      · have hf := erun_far hr hi
        simp only [EFar] at hf
        obtain ⟨r, hm⟩ := ih (.more l) d j ns' hf.1 (by simp only [eleft] at h ⊢; omega)
        exact ⟨r, .bound l d i ns j ns' r hr hm⟩
      · exact ⟨_, .boundFell l d i ns e hr⟩
    | more l =>
      cases ht : ts[i]? with
      | none => exact ⟨_, .done l d i ns (fun t h => by rw [ht] at h; cases h)⟩
      | some t =>
        have hil := (List.getElem?_eq_some_iff.1 ht).1
        by_cases hl : l ≤ t.tight
        · obtain ⟨r, hr⟩ := ih (.bound (t.tight + 1)) d (i + 1) ns (by omega) (by simp only [eleft] at h ⊢; omega)
          rcases r with ⟨j, ns'⟩ | e
          · have hf := erun_far hr (by omega)
            simp only [EFar] at hf
            obtain ⟨r, hm⟩ := ih (.more l) d j (ns' ++ [t.node (twoKind t.text)]) hf.1 (by simp only [eleft] at h ⊢; omega)
            exact ⟨r, .more l d i ns t j ns' r ht hl hr hm⟩
          · exact ⟨_, .moreFell l d i ns t e ht hl hr⟩
        · exact ⟨_, .done l d i ns (fun s h => by rw [ht] at h; injection h with h; subst h; omega)⟩
    | argument =>
      cases hm : markAt ts i ⟨#[40]⟩ with
      | false => exact ⟨_, .argumentBad d i ns hm⟩
      | true =>
        have := markAt_lt hm
        obtain ⟨r, hr⟩ := ih .closed d (i + 1) ns (by omega) (by simp only [eleft] at h ⊢; omega)
        exact ⟨r, .argument d i ns r hm hr⟩
    | closed =>
      obtain ⟨r, hr⟩ := ih (.bound 1) d i ns hi (by simp only [eleft] at h ⊢; omega)
      rcases r with ⟨j, ns'⟩ | e
      · cases hm : markAt ts j ⟨#[41]⟩ with
        | false => exact ⟨_, .closedBad d i ns j ns' hr hm⟩
        | true => exact ⟨_, .closed d i ns j ns' hr hm⟩
      · exact ⟨_, .closedFell d i ns e hr⟩
end Go.Proofs.YtbhfblogjlpnlaaDoor
