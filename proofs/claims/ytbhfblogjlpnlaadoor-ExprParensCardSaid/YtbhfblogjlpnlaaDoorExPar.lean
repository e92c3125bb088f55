/-
  Expressions in parentheses, on lists of tokens: they are read as without, node by node, each a column on; or they are too deep. No program's contract.
-/
import Derived.Test.YtbhfblogjlpnlaaDoorExSpec
namespace Go.Proofs.YtbhfblogjlpnlaaDoor

/-- A token, and a node, a column on. -/
def Tk6.on (t : Tk6) : Tk6 := ⟨t.kind, t.line, t.col + 1, t.text, t.num, t.spare⟩
def Nd.on (n : Nd) : Nd := ⟨n.kind, n.line, n.col + 1, n.num, n.name⟩
theorem on_tight (t : Tk6) : t.on.tight = t.tight := rfl
theorem on_first (t : Tk6) : t.on.first = t.first := rfl
theorem on_leaf (t : Tk6) : t.on.leaf = t.leaf.map Nd.on := by
  unfold Tk6.leaf
  show (if t.kind = 5 then _ else if t.kind = 1 then (if isT t.text [46] then _ else _) else if t.kind = 2 then _ else _) = _
  by_cases h5 : t.kind = 5
  · rw [if_pos h5, if_pos h5]; rfl
  · rw [if_neg h5, if_neg h5]
    by_cases h1 : t.kind = 1
    · rw [if_pos h1, if_pos h1]
      cases isT t.text [46] <;> rfl
    · rw [if_neg h1, if_neg h1]
      by_cases h2 : t.kind = 2
      · rw [if_pos h2, if_pos h2]; rfl
      · rw [if_neg h2, if_neg h2]; rfl
theorem on_nodes (t : Tk6) (k : Option Int) : t.on.nodes k = (t.nodes k).map Nd.on := by cases k <;> rfl
theorem on_isM (t : Tk6) (s : ByteArray) : t.on.isM s = t.isM s := rfl

/-- The same tokens, one place and one column on; behind them nothing that binds. -/
structure OnIn (ts us : List Tk6) : Prop where
  at_ : ∀ i t, ts[i]? = some t → us[i + 1]? = some t.on
  behind : ∀ t, us[ts.length + 1]? = some t → t.tight = 0

theorem on_mark {ts us : List Tk6} (h : OnIn ts us) {i : Nat} {s : ByteArray} (hm : markAt ts i s = true) : markAt us (i + 1) s = true := by
  unfold markAt at hm ⊢
  split at hm
  · rename_i t ht
    rw [h.at_ i t ht]
    exact hm
  · cases hm

/-- What is read so, deeper. -/
theorem erun_on {ts us : List Tk6} (ho : OnIn ts us) {q : EKind} {d i : Nat} {ns : List Nd} {r : (Nat × List Nd) ⊕ (Nat × Int)} (h : ERun ts q d i ns r) : (∀ l, q = .bound l ∨ q = .more l → 1 ≤ l) → i ≤ ts.length → ∀ j ns', r = .inl (j, ns') →
    ERun us q (d + 1) (i + 1) (ns.map Nd.on) (.inl (j + 1, ns'.map Nd.on)) ∨ ∃ e, ERun us q (d + 1) (i + 1) (ns.map Nd.on) (.inr (e, 14)) := by
  induction h with
  | none d i ns h => intro _ _ j ns' h; cases h
  | leaf d i ns t n h hf hl =>
    intro _ _ j ns' hr
    injection hr with hr
    injection hr with h1 h2
    subst h1 h2
    left
    rw [List.map_append]
    exact .leaf (d + 1) (i + 1) _ t.on n.on (ho.at_ i t h) (by rw [on_first, hf]) (by rw [on_leaf, hl]; rfl)
  | bad d i ns t h hf hl => intro _ _ j ns' h; cases h
  | deep d i ns t k q h hf hd => intro _ _ j ns' h; cases h
  | fell d i ns t k q e h hf hd hr ih => intro _ _ j ns' h; cases h
  | ahead d i ns t k q j ns' h hf hd hr ih =>
    intro _ hi j2 ns2 he
    injection he with he
    injection he with h1 h2
    subst h1 h2
    have hil := (List.getElem?_eq_some_iff.1 h).1
    by_cases hd2 : d + 1 < 32
    · rcases ih (fun l hl => by rcases first_kind hf with rfl | rfl | rfl <;> rcases hl with hl | hl <;> cases hl) (by omega) j ns' rfl with h1 | ⟨e, h1⟩
      · left
        rw [List.map_append, ← on_nodes]
        exact .ahead (d + 1) (i + 1) _ t.on k q (j + 1) _ (ho.at_ i t h) (by rw [on_first, hf]) hd2 h1
      · exact .inr ⟨e, .fell (d + 1) (i + 1) _ t.on k q _ (ho.at_ i t h) (by rw [on_first, hf]) hd2 h1⟩
    · exact .inr ⟨i + 1, .deep (d + 1) (i + 1) _ t.on k q (ho.at_ i t h) (by rw [on_first, hf]) (by omega)⟩
  | boundFell l d i ns e hr ih => intro _ _ j ns' h; cases h
  | bound l d i ns j ns' r hr hm ih1 ih2 =>
    intro hl hi j2 ns2 he
    subst he
    have hf := erun_far hr hi
    simp only [EFar] at hf
    rcases ih1 (fun l hl => by rcases hl with hl | hl <;> cases hl) hi j ns' rfl with h1 | ⟨e, h1⟩
    · rcases ih2 (fun l' hl' => by rcases hl' with hl' | hl' <;> cases hl'; exact hl l (.inl rfl)) hf.1 j2 ns2 rfl with h2 | ⟨e, h2⟩
      · exact .inl (.bound l _ _ _ _ _ _ h1 h2)
      · exact .inr ⟨e, .bound l _ _ _ _ _ _ h1 h2⟩
    · exact .inr ⟨e, .boundFell l _ _ _ _ h1⟩
  | done l d i ns h =>
    intro hl hi j ns' he
    injection he with he
    injection he with h1 h2
    subst h1 h2
    left
    refine .done l (d + 1) (i + 1) _ fun t ht => ?_
    rcases Nat.lt_or_ge i ts.length with hlt | hge
    · have h2 := ho.at_ i _ (List.getElem?_eq_getElem hlt)
      rw [h2] at ht
      injection ht with ht
      rw [← ht, on_tight]
      exact h _ (List.getElem?_eq_getElem hlt)
    · obtain rfl : i = ts.length := by omega
      rw [ho.behind t ht]
      exact hl l (.inr rfl)
  | moreFell l d i ns t e h hl hr ih => intro _ _ j ns' h; cases h
  | more l d i ns t j ns' r h hl hr hm ih1 ih2 =>
    intro hl1 hi j2 ns2 he
    subst he
    have hil := (List.getElem?_eq_some_iff.1 h).1
    have hf := erun_far hr (by omega)
    simp only [EFar] at hf
    have h0 := hl1 l (.inr rfl)
    rcases ih1 (fun l' hl' => by rcases hl' with hl' | hl' <;> cases hl'; omega) (by omega) j ns' rfl with h1 | ⟨e, h1⟩
    · rcases ih2 (fun l' hl' => by rcases hl' with hl' | hl' <;> cases hl'; exact h0) hf.1 j2 ns2 rfl with h2 | ⟨e, h2⟩
      · rw [List.map_append] at h2
        exact .inl (.more l _ _ _ t.on _ _ _ (ho.at_ i t h) hl h1 h2)
      · rw [List.map_append] at h2
        exact .inr ⟨e, .more l _ _ _ t.on _ _ _ (ho.at_ i t h) hl h1 h2⟩
    · exact .inr ⟨e, .moreFell l _ _ _ t.on _ (ho.at_ i t h) hl h1⟩
  | closedFell d i ns e hr ih => intro _ _ j ns' h; cases h
  | closedBad d i ns j ns' hr h ih => intro _ _ j ns' h; cases h
  | closed d i ns j ns' hr h ih =>
    intro _ hi j2 ns2 he
    injection he with he
    injection he with h1 h2
    subst h1 h2
    rcases ih (fun l' hl' => by rcases hl' with hl' | hl' <;> cases hl'; decide) hi j ns' rfl with h1 | ⟨e, h1⟩
    · exact .inl (.closed _ _ _ _ _ h1 (on_mark ho h))
    · exact .inr ⟨e, .closedFell _ _ _ _ h1⟩
  | argumentBad d i ns h => intro _ _ j ns' h; cases h
  | argument d i ns r h hr ih =>
    intro _ hi j2 ns2 he
    have hil := markAt_lt h
    rcases ih (fun l' hl' => by rcases hl' with hl' | hl' <;> cases hl') (by omega) j2 ns2 he with h1 | ⟨e, h1⟩
    · exact .inl (.argument _ _ _ _ (on_mark ho h) h1)
    · exact .inr ⟨e, .argument _ _ _ _ (on_mark ho h) h1⟩

/-- An expression in parentheses. -/
theorem erun_paren {ts : List Tk6} {a : List Nd} {p : Tk6} {tail : List Tk6} (h : ERun ts (.bound 1) 0 0 [] (.inl (ts.length, a))) (hp : p.first = some (none, .closed)) (ht : tail = [] ∨ ∃ q, tail = [q] ∧ q.isM ⟨#[41]⟩ = true ∧ q.tight = 0) :
    (∃ e c, (c = 6 ∨ c = 14) ∧ ERun (p :: ts.map Tk6.on ++ tail) (.bound 1) 0 0 [] (.inr (e, c))) ∨ ERun (p :: ts.map Tk6.on ++ tail) (.bound 1) 0 0 [] (.inl ((p :: ts.map Tk6.on ++ tail).length, a.map Nd.on)) := by
  have hlen : (p :: ts.map Tk6.on).length = ts.length + 1 := by simp
  have ho : OnIn ts (p :: ts.map Tk6.on ++ tail) := ⟨fun i t hi => by
    have hil := (List.getElem?_eq_some_iff.1 hi).1
    rw [List.getElem?_append_left (by rw [hlen]; omega), List.getElem?_cons_succ, List.getElem?_map, hi]
    rfl, fun t hi => by
    rw [List.getElem?_append_right (by rw [hlen]; exact Nat.le_refl _), hlen, Nat.sub_self] at hi
    rcases ht with rfl | ⟨q, rfl, _, hq⟩
    · cases hi
    · injection hi with hi
      rw [← hi]
      exact hq⟩
  have h0 : (p :: ts.map Tk6.on ++ tail)[0]? = some p := rfl
  rcases erun_on ho h (fun l' hl' => by rcases hl' with hl' | hl' <;> cases hl'; decide) (Nat.zero_le _) _ _ rfl with h1 | ⟨e, h1⟩
  · rcases ht with rfl | ⟨q, rfl, hq, hq0⟩
    · left
      refine ⟨ts.length + 1, 6, .inl rfl, .boundFell 1 0 0 [] _ (.fell 0 0 [] p none .closed _ h0 hp (by decide) (.closedBad 1 1 [] _ _ h1 ?_))⟩
      unfold markAt
      rw [List.append_nil, List.getElem?_eq_none (by rw [hlen]; exact Nat.le_refl _)]
    · right
      have hq1 : (p :: ts.map Tk6.on ++ [q])[ts.length + 1]? = some q := by
        rw [List.getElem?_append_right (by rw [hlen]; exact Nat.le_refl _), hlen, Nat.sub_self]
        rfl
      have hall : (p :: ts.map Tk6.on ++ [q]).length = ts.length + 1 + 1 := by simp
      have hc := ERun.closed 1 1 [] _ _ h1 (by unfold markAt; rw [hq1]; exact hq)
      have hpp := ERun.ahead 0 0 [] p none .closed _ _ h0 hp (by decide) hc
      rw [show p.nodes none = [] from rfl, List.append_nil] at hpp
      rw [hall]
      refine .bound 1 0 0 [] _ _ _ hpp (.done 1 0 _ _ fun t ht => ?_)
      rw [List.getElem?_eq_none (by rw [hall]; exact Nat.le_refl _)] at ht
      cases ht
  · exact .inl ⟨e, 14, .inr rfl, .boundFell 1 0 0 [] _ (.fell 0 0 [] p none .closed _ h0 hp (by decide) (.closedFell 1 1 [] _ h1))⟩

/-- Each node stands where a token stands. -/
def Placed (ts : List Tk6) (ns : List Nd) : Prop := ∀ n ∈ ns, ∃ t ∈ ts, n.col = t.col
theorem placed_app {ts : List Tk6} {a b : List Nd} (ha : Placed ts a) (hb : Placed ts b) : Placed ts (a ++ b) := fun n hn => (List.mem_append.1 hn).elim (ha n) (hb n)
theorem placed_nodes {ts : List Tk6} {t : Tk6} (h : t ∈ ts) (k : Option Int) : Placed ts (t.nodes k) := by
  cases k with
  | none => intro n hn; cases hn
  | some k =>
    intro n hn
    obtain rfl := List.mem_singleton.1 hn
    exact ⟨t, h, rfl⟩
theorem leaf_col {t : Tk6} {n : Nd} (h : t.leaf = some n) : n.col = t.col := by
  unfold Tk6.leaf at h
  split at h
  · injection h with h; subst h; rfl
  · split at h
    · split at h
      · injection h with h; subst h; rfl
      · injection h with h; subst h; rfl
    · split at h
      · injection h with h; subst h; rfl
      · cases h
theorem erun_cols {ts : List Tk6} {q : EKind} {d i : Nat} {ns : List Nd} {r : (Nat × List Nd) ⊕ (Nat × Int)} (h : ERun ts q d i ns r) : Placed ts ns → ∀ j ns', r = .inl (j, ns') → Placed ts ns' := by
  induction h with
  | none d i ns h => intro _ j ns' h; cases h
  | leaf d i ns t n h hf hl =>
    intro hp j ns' he
    injection he with he
    injection he with h1 h2
    subst h1 h2
    refine placed_app hp fun m hm => ?_
    obtain rfl := List.mem_singleton.1 hm
    exact ⟨t, List.mem_of_getElem? h, leaf_col hl⟩
  | bad d i ns t h hf hl => intro _ j ns' h; cases h
  | deep d i ns t k q h hf hd => intro _ j ns' h; cases h
  | fell d i ns t k q e h hf hd hr ih => intro _ j ns' h; cases h
  | ahead d i ns t k q j ns' h hf hd hr ih =>
    intro hp j2 ns2 he
    injection he with he
    injection he with h1 h2
    subst h1 h2
    exact placed_app (ih hp j ns' rfl) (placed_nodes (List.mem_of_getElem? h) k)
  | boundFell l d i ns e hr ih => intro _ j ns' h; cases h
  | bound l d i ns j ns' r hr hm ih1 ih2 => exact fun hp j2 ns2 he => ih2 (ih1 hp j ns' rfl) j2 ns2 he
  | done l d i ns h =>
    intro hp j ns' he
    injection he with he
    injection he with h1 h2
    subst h1 h2
    exact hp
  | moreFell l d i ns t e h hl hr ih => intro _ j ns' h; cases h
  | more l d i ns t j ns' r h hl hr hm ih1 ih2 =>
    exact fun hp j2 ns2 he => ih2 (placed_app (ih1 hp j ns' rfl) (placed_nodes (List.mem_of_getElem? h) (some (twoKind t.text)))) j2 ns2 he
  | closedFell d i ns e hr ih => intro _ j ns' h; cases h
  | closedBad d i ns j ns' hr h ih => intro _ j ns' h; cases h
  | closed d i ns j ns' hr h ih =>
    intro hp j2 ns2 he
    injection he with he
    injection he with h1 h2
    subst h1 h2
    exact ih hp j ns' rfl
  | argumentBad d i ns h => intro _ j ns' h; cases h
  | argument d i ns r h hr ih => exact ih
end Go.Proofs.YtbhfblogjlpnlaaDoor
