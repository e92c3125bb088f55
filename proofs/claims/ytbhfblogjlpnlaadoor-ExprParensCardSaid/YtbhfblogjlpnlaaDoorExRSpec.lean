/-
  What the reference's Parse goes by: the stack's reading, step by step; what holds of its nodes and its stack in the memory. No program's contract.
-/
import Derived.Test.YtbhfblogjlpnlaaDoorExROpen
import Derived.Test.YtbhfblogjlpnlaaDoorExParse
namespace Go.Proofs.YtbhfblogjlpnlaaDoor
open Go.RowKit

section
variable {ts : List Tk6} {i : Nat} {out : List Nd} {S : List Wt} {r : (Nat × List Nd) ⊕ (Nat × Int)} {t : Tk6} {w : Wt}
theorem mtrue_none (h : MRun ts true i out S r) (ht : ts[i]? = none) : r = .inr (i, 6) := by
  cases h with
  | none => rfl
  | leaf _ _ _ t n _ h => exact absurd (ht.symm.trans h) nofun
  | bad _ _ _ t h => rfl
  | deep _ _ _ t k q h => exact absurd (ht.symm.trans h) nofun
  | noArg _ _ _ t k h => exact absurd (ht.symm.trans h) nofun
  | push _ _ _ t k q _ h => exact absurd (ht.symm.trans h) nofun
theorem same_tok {t' : Tk6} (ht : ts[i]? = some t) (h : ts[i]? = some t') : t' = t := Option.some.inj (h.symm.trans ht)
theorem mtrue_leaf {n : Nd} (h : MRun ts true i out S r) (ht : ts[i]? = some t) (hl : t.leaf = some n) : MRun ts false (i + 1) (out ++ [n]) S r := by
  cases h with
  | none _ _ _ h => exact absurd (h.symm.trans ht) nofun
  | leaf _ _ _ t' n' _ h hl' hr =>
    obtain rfl := same_tok ht h
    obtain rfl := Option.some.inj (hl'.symm.trans hl)
    exact hr
  | bad _ _ _ t' h hl' hf =>
    obtain rfl := same_tok ht h
    exact absurd (hl'.symm.trans hl) nofun
  | deep _ _ _ t' k q h hl' hf hd =>
    obtain rfl := same_tok ht h
    exact absurd (hl'.symm.trans hl) nofun
  | noArg _ _ _ t' k h hl' hf hd hm =>
    obtain rfl := same_tok ht h
    exact absurd (hl'.symm.trans hl) nofun
  | push _ _ _ t' k q _ h hl' hf hd hm hr =>
    obtain rfl := same_tok ht h
    exact absurd (hl'.symm.trans hl) nofun
theorem mtrue_bad (h : MRun ts true i out S r) (ht : ts[i]? = some t) (hl : t.leaf = none) (hf : t.first = none) : r = .inr (i, 6) := by
  cases h with
  | none _ _ _ h => rfl
  | leaf _ _ _ t' n' _ h hl' hr =>
    obtain rfl := same_tok ht h
    exact absurd (hl'.symm.trans hl) nofun
  | bad _ _ _ t' h hl' hf => rfl
  | deep _ _ _ t' k q h hl' hf' hd =>
    obtain rfl := same_tok ht h
    exact absurd (hf'.symm.trans hf) nofun
  | noArg _ _ _ t' k h hl' hf' hd hm =>
    obtain rfl := same_tok ht h
    exact absurd (hf'.symm.trans hf) nofun
  | push _ _ _ t' k q _ h hl' hf' hd hm hr =>
    obtain rfl := same_tok ht h
    exact absurd (hf'.symm.trans hf) nofun
theorem mtrue_first {k : Option Int} {q : EKind} (h : MRun ts true i out S r) (ht : ts[i]? = some t) (hl : t.leaf = none) (hf : t.first = some (k, q)) :
    (32 ≤ deepOf S → r = .inr (i, 14)) ∧ (deepOf S < 32 → (q = .argument → markAt ts (i + 1) ⟨#[40]⟩ = false → r = .inr (i + 1, 6)) ∧ ((q = .argument → markAt ts (i + 1) ⟨#[40]⟩ = true) → MRun ts true (i + esize q) out (S ++ [t.wait k q]) r)) := by
  cases h with
  | none _ _ _ h => exact absurd (h.symm.trans ht) nofun
  | leaf _ _ _ t' n' _ h hl' hr =>
    obtain rfl := same_tok ht h
    exact absurd (hl'.symm.trans hl) nofun
  | bad _ _ _ t' h hl' hf' =>
    obtain rfl := same_tok ht h
    exact absurd (hf'.symm.trans hf) nofun
  | deep _ _ _ t' k q h hl' hf' hd => exact ⟨fun _ => rfl, fun h => by omega⟩
  | noArg _ _ _ t' k' h hl' hf' hd hm =>
    obtain rfl := same_tok ht h
    have h2 := Option.some.inj (hf'.symm.trans hf)
    injection h2 with h2 h3
    subst h2 h3
    exact ⟨fun h => by omega, fun _ => ⟨fun _ _ => rfl, fun h => absurd ((h rfl).symm.trans hm) nofun⟩⟩
  | push _ _ _ t' k' q' _ h hl' hf' hd hm hr =>
    obtain rfl := same_tok ht h
    have h2 := Option.some.inj (hf'.symm.trans hf)
    injection h2 with h2 h3
    subst h2 h3
    exact ⟨fun h => by omega, fun _ => ⟨fun h1 h2 => absurd ((hm h1).symm.trans h2) nofun, fun _ => hr⟩⟩
theorem snoc_inj {a b : List Wt} {x y : Wt} (h : a ++ [x] = b ++ [y]) : a = b ∧ x = y := by
  have := List.append_inj' h rfl
  exact ⟨this.1, List.head_eq_of_cons_eq this.2⟩
theorem topLow_not {l : Nat} (h : topLow (S ++ [w]) l) : w.opn = true ∨ w.how < l := h w (by rw [List.getLast?_append]; rfl)
theorem tightAt_some (ht : ts[i]? = some t) : tightAt ts i = t.tight := by unfold tightAt; rw [ht]
theorem mfalse_pop (h : MRun ts false i out (S ++ [w]) r) (ho : w.opn = false) (hh : tightAt ts i ≤ w.how) : MRun ts false i (out ++ [w.n]) S r := by
  generalize hS : S ++ [w] = S0 at h
  cases h with
  | pop _ _ S1 w1 _ ho1 hh1 hr =>
    obtain ⟨rfl, rfl⟩ := snoc_inj hS
    exact hr
  | two _ _ _ t _ ht h0 hl hr =>
    subst hS
    rw [tightAt_some ht] at hh
    rcases topLow_not hl with h | h
    · rw [ho] at h; cases h
    · omega
  | done => exact absurd hS (by simp)
  | open_ _ _ S1 w1 h0 ho1 hm =>
    obtain ⟨rfl, rfl⟩ := snoc_inj hS
    rw [ho] at ho1; cases ho1
  | close _ _ S1 w1 _ h0 ho1 hm hr =>
    obtain ⟨rfl, rfl⟩ := snoc_inj hS
    rw [ho] at ho1; cases ho1
theorem mfalse_two (h : MRun ts false i out S r) (ht : ts[i]? = some t) (h0 : 0 < t.tight) (hl : topLow S t.tight) : MRun ts true (i + 1) out (S ++ [⟨t.node (twoKind t.text), t.tight, false⟩]) r := by
  cases h with
  | pop _ _ S1 w1 _ ho1 hh1 hr =>
    rw [tightAt_some ht] at hh1
    rcases topLow_not hl with h | h
    · rw [ho1] at h; cases h
    · omega
  | two _ _ _ t' _ ht' h0' hl' hr =>
    obtain rfl := same_tok ht ht'
    exact hr
  | done _ _ h => rw [tightAt_some ht] at h; omega
  | open_ _ _ S1 w1 h _ _ => rw [tightAt_some ht] at h; omega
  | close _ _ S1 w1 _ h _ _ _ => rw [tightAt_some ht] at h; omega
theorem mfalse_done (h : MRun ts false i out [] r) (h0 : tightAt ts i = 0) : r = .inl (i, out) := by
  generalize hS : ([] : List Wt) = S0 at h
  cases h with
  | pop _ _ S1 w1 _ ho1 hh1 hr => exact absurd hS (by simp)
  | two _ _ _ t' _ ht' h0' hl' hr => rw [tightAt_some ht'] at h0; omega
  | done _ _ h => rfl
  | open_ _ _ S1 w1 h _ _ => exact absurd hS (by simp)
  | close _ _ S1 w1 _ h _ _ _ => exact absurd hS (by simp)
theorem mfalse_open (h : MRun ts false i out (S ++ [w]) r) (h0 : tightAt ts i = 0) (ho : w.opn = true) : (markAt ts i ⟨#[41]⟩ = false → r = .inr (i, 6)) ∧ (markAt ts i ⟨#[41]⟩ = true → MRun ts false (i + 1) (out ++ w.adds) S r) := by
  generalize hS : S ++ [w] = S0 at h
  cases h with
  | pop _ _ S1 w1 _ ho1 hh1 hr =>
    obtain ⟨rfl, rfl⟩ := snoc_inj hS
    rw [ho] at ho1; cases ho1
  | two _ _ _ t' _ ht' h0' hl' hr => rw [tightAt_some ht'] at h0; omega
  | done _ _ h => exact absurd hS (by simp)
  | open_ _ _ S1 w1 h ho1 hm =>
    obtain ⟨rfl, rfl⟩ := snoc_inj hS
    exact ⟨fun _ => rfl, fun h => absurd (h.symm.trans hm) nofun⟩
  | close _ _ S1 w1 _ h ho1 hm hr =>
    obtain ⟨rfl, rfl⟩ := snoc_inj hS
    exact ⟨fun h => absurd (h.symm.trans hm) nofun, fun _ => hr⟩
end

/-- What holds of the nodes and of the stack, in every world since. -/
structure RPW (w0 : World) (out : List Nd) (S : List Wt) (vo vs : Value) (w : World) : Prop where
  outs : w.ownsRow w0.heap.size 54 5 vo out.length (ndCells out)
  stk : w.ownsRow w0.heap.size 78 7 vs S.length (wtCells S)
  below : Below w0.heap.size w0 w
section
variable {w0 w w' : World} {out : List Nd} {S : List Wt} {vo vs v' : Value}
theorem RPW.next (h : RPW w0 out S vo vs w) (hb : Below w.heap.size w w') : RPW w0 out S vo vs w' := ⟨own_below h.outs hb, own_below h.stk hb, h.below.trans (hb.mono h.below.size)⟩
theorem RPW.push {n : Nd} (h : RPW w0 out S vo vs w) (hown : w'.ownsRow w0.heap.size 54 5 v' (out.length + 1) (ndCells out ++ n.cells)) (hg : w.grownBy w' vo.ownBlock) : RPW w0 (out ++ [n]) S v' vs w' :=
  ⟨by rw [ndCells_app, List.length_append, show ndCells [n] = n.cells from List.append_nil _]; exact hown, h.stk.kept hg (own_ne h.stk h.outs (by decide)), Below.grown h.below hg h.below.size (fun x hx => (h.outs.lt x hx).1)⟩
theorem RPW.wait {x : Wt} (h : RPW w0 out S vo vs w) (hown : w'.ownsRow w0.heap.size 78 7 v' (S.length + 1) (wtCells S ++ x.cells)) (hg : w.grownBy w' vs.ownBlock) : RPW w0 out (S ++ [x]) vo v' w' :=
  ⟨h.outs.kept hg (own_ne h.outs h.stk (by decide)), by rw [wtCells_app, List.length_append, show wtCells [x] = x.cells from List.append_nil _]; exact hown, Below.grown h.below hg h.below.size (fun x hx => (h.stk.lt x hx).1)⟩
/-- The stack is copied without its last. -/
theorem RPW.drop {x : Wt} {g c : Nat} (h : RPW w0 out (S ++ [x]) vo vs w) (hown : w'.ownsRow w0.heap.size 78 7 v' (0 + S.length) ([] ++ wtCells S)) (hg : w.grownBy w' (Value.slice (some ⟨g, 0, none⟩) 0 c).ownBlock) (hne : vo.ownBlock ≠ some g) (hge : w0.heap.size ≤ g) : RPW w0 out S vo v' w' :=
  ⟨h.outs.kept hg (.inr hne), by rw [Nat.zero_add, List.nil_append] at hown; exact hown, Below.grown h.below hg h.below.size (fun y hy => by
    have hy2 : g = y := by simpa [Value.ownBlock] using hy
    omega)⟩
theorem wtCells_front (S : List Wt) (x : Wt) : ∀ (j : Nat) (u : Value), (wtCells S)[j]? = some u → (wtCells (S ++ [x]))[j]? = some u := by
  intro j u h
  rw [wtCells_app, List.getElem?_append_left (List.getElem?_eq_some_iff.1 h).1]
  exact h
theorem wtCells_one (S : List Wt) : ∀ u ∈ wtCells S, u.oneCell' = true := by
  intro u hu
  obtain ⟨x, _, hx⟩ := List.mem_flatMap.1 hu
  simp [Wt.cells] at hx
  rcases hx with rfl | rfl | rfl | rfl | rfl | rfl | rfl <;> rfl
end

/-- What holds at the loop's head. -/
structure RPInv (w0 : World) (ts : List Tk6) (r : (Nat × List Nd) ⊕ (Nat × Int)) (p : Bool) (i : Nat) (out : List Nd) (S : List Wt) (vo vs : Value) (w : World) : Prop where
  run : MRun ts p i out S r
  le : i ≤ ts.length
  few : out.length + S.length ≤ i
  mem : RPW w0 out S vo vs w
  pos : p = false → 0 < i

theorem Tryd.infoWait : (Tryd.prog.info? 78).map (fun i => (i.zero, i.size, i.bytes)) = some (some (.agg #[.int .i64 0, .int .i64 0, .int .i64 0, .int .u32 0, .string ByteArray.empty, .int .i64 0, .bool false]), 7, 64) := by kernel_rfl

/-- The answer of the reference's Parse. -/
def RParseOut (w : World) (ts : List Tk6) (r : (Nat × List Nd) ⊕ (Nat × Int)) (e : Ending) (w' : World) : Prop :=
  (match r with
  | .inl (j, ns) => ∃ vn A c, e = .returned (.agg #[vn, .slice A (ts.length - j) c, .int .i64 0, .int .i64 0, .int .i64 0]) ∧ w'.ownsRow w.heap.size 54 5 vn ns.length (ndCells ns) ∧ Toks w' (.slice A (ts.length - j) c) (ts.drop j)
  | .inr (i, c) => e = .returned (.agg #[.slice none 0 0, .slice none 0 0, .int .i64 (placeAt ts i).1, .int .i64 (placeAt ts i).2, .int .i64 c])) ∧ Below w.heap.size w w'
end Go.Proofs.YtbhfblogjlpnlaaDoor
