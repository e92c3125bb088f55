/-
  A set of names, kept as a map from strings to bools: what it holds, a name put into it, a name asked of it. Condition: the names' lengths are within the model's bound.
-/
import Derived.Test.YtbhfblogjlpnlabDoorWords
import Derived.Maps.OwnSet
import Derived.Maps.OwnOps
import Derived.WideMake
namespace Go.Proofs.YtbhfblogjlpnlabDoor
open Go.RowKit Go.Maps

theorem run_makeMap_hint {t k e : TypeId} (hu : Tryd.prog.underlying t = some (.map k e)) (n : Int) (w : World) : (Instr.makeMap t (some (.int .i64 n))).run Tryd.prog w = .ok (.map (some w.heap.size)) (w.alloc (.map #[] 0)) := by
  simp [Instr.makeMap, run_underlying hu, asInt, Result.andThen]
  rfl

/-- The map of block b, with at most n entries, has these names, each as true. -/
def Taken (w : World) (b n : Nat) (T : List (List UInt8)) : Prop :=
  ∃ D : DataW Unit, w.ownsMap Tryd.prog 9 (plainElem Tryd.prog 4) b n D ∧ ∀ l z, D.atKey (.string l) z = if l ∈ T then .lit (.bool true) else z

theorem Taken.new (w : World) : Taken (w.alloc (.map #[] 0)) w.heap.size 0 [] :=
  ⟨_, World.ownsMap_made _ _ _ _, fun l z => by simp [DataW.atKey]⟩
section
variable {w w' : World} {b n : Nat} {T : List (List UInt8)}
theorem Taken.lt (h : Taken w b n T) : b < w.heap.size := by
  obtain ⟨D, h1, _⟩ := h
  exact h1.lt
theorem Taken.kept (h : Taken w b n T) (hk : w'.heap[b]? = w.heap[b]?) : Taken w' b n T := by
  obtain ⟨D, ⟨es, clock, hb, r⟩, h2⟩ := h
  exact ⟨D, ⟨es, clock, hk.trans hb, r⟩, h2⟩
theorem Taken.below (h : Taken w b n T) (hb : Below w.heap.size w w') : Taken w' b n T := h.kept (hb.block b h.lt)
theorem Taken.alloc (h : Taken w b n T) (o : Obj) : Taken (w.alloc o) b n T := h.below ((Below.refl _ _).alloc (Nat.le_refl _) o)
theorem put_taken {D : DataW Unit} (hm : IsMap D) (h : ∀ l z, D.atKey (.string l) z = if l ∈ T then .lit (.bool true) else z) (x : List UInt8) :
    ∀ l z, (D.put (.string x) (.lit (.bool true))).atKey (.string l) z = if l ∈ T ++ [x] then .lit (.bool true) else z := by
  intro l z
  by_cases hx : l = x
  · subst hx
    rw [atKey_put_same hm (by simp [WideAt.IsKeyLit])]
    simp
  · rw [atKey_put_other (by intro e; cases e; exact hx rfl), h]
    simp [hx]
end

/-- A name is put into it. -/
theorem wpList_taken_put {ops : Array Oper} {rest : List Oper} {o : Oper} {a : Act} {Q : Exit → Act → World → Prop} (w : World)
    (hg : o.guard = none) (m x v : Operand) (hop : o.op = Op.mapUpdate 128 m x v) (b n : Nat) (T : List (List UInt8))
    (hm : a.eval m = .map (some b)) (h : Taken w b n T) (hn : n < maxLen) (s : ByteArray) (hs : s.size ≤ maxLen) (hx : a.eval x = .string s) (hv : a.eval v = .bool true)
    (hK : ∀ w', Taken w' b (n + 1) (T ++ [s.data.toList]) → w.grownBy w' (some b) → wpList Tryd.prog ops Q rest (a.put o.dst undef) w') :
    wpList Tryd.prog ops Q (o :: rest) a w := by
  obtain ⟨D, h1, h2⟩ := h
  refine wpList_mapUpdate_own w hg m x v 128 hop 9 4 (string_keyed Tryd.underlying9) Tryd.underlying128 _ b n D hm h1 hn _ _ _ hx hv (WideMaps.keyOf_string_mk Tryd.underlying9 hs) _ [] (plainElem_bool Tryd.underlying4 true) ?_
  intro w' h3 h4
  exact hK w' ⟨_, h3, put_taken h1.isMap h2 _⟩ h4

theorem plainElem_bool_inv {P : Program} {e : TypeId} (he : P.underlying e = some .bool) {v : Value} {z : DataW Unit × List MemPlace} (h : plainElem P e v = some z) : ∃ c, v = .bool c ∧ z = (.lit (.bool c), []) := by
  unfold plainElem at h
  rw [he] at h
  cases v <;> simp at h
  subst h
  exact ⟨_, rfl, rfl⟩

theorem look_bool {P : Program} {k e t : TypeId} (K : Keyed P k) (ht : P.underlying t = some (.map k e)) (he : P.underlying e = some .bool) {w : World} (hz : (zeroValue e).run P w = .ok (.bool false) w) {b n : Nat} {D : DataW Unit}
    (h1 : w.ownsMap P k (plainElem P e) b n D) {key : Value} {kl : Lit} (hkey : keyOf P k key = some kl) {c : Bool} (hc : D.atKey kl (.lit (.bool false)) = .lit (.bool c)) :
    (Instr.lookup t (.map (some b)) key false).run P w = .ok (.bool c) w := by
  obtain ⟨v, ps, hrun, hv⟩ := h1.lookup K ht hz (plainElem_bool he false) hkey
  obtain ⟨c', rfl, hc'⟩ := plainElem_bool_inv he hv
  simp only [Prod.mk.injEq] at hc'
  have e1 := hc'.1
  rw [hc] at e1
  simp at e1
  rw [e1]
  exact hrun

theorem wpList_look_run {P : Program} {ops : Array Oper} {rest : List Oper} {o : Oper} {a : Act} {Q : Exit → Act → World → Prop} (w : World)
    (hg : o.guard = none) (m x : Operand) (t : TypeId) (hop : o.op = Op.lookup t m x false) {mv key v : Value} (hm : a.eval m = mv) (hx : a.eval x = key)
    (hrun : (Instr.lookup t mv key false).run P w = .ok v w) (hK : wpList P ops Q rest (a.put o.dst v) w) : wpList P ops Q (o :: rest) a w := by
  refine wpList_plain hg fun K' hK' => ?_
  unfold Oper.wp
  simp [execOp, hop, hm, hx, hrun, Result.andThen]
  exact hK' _ _ hK

/-- A name is asked of it. -/
theorem wpList_taken_look {ops : Array Oper} {rest : List Oper} {o : Oper} {a : Act} {Q : Exit → Act → World → Prop} (w : World)
    (hg : o.guard = none) (m x : Operand) (hop : o.op = Op.lookup 128 m x false) (b n : Nat) (T : List (List UInt8))
    (hm : a.eval m = .map (some b)) (h : Taken w b n T) (s : ByteArray) (hs : s.size ≤ maxLen) (hx : a.eval x = .string s)
    (hK : wpList Tryd.prog ops Q rest (a.put o.dst (.bool (decide (s.data.toList ∈ T)))) w) :
    wpList Tryd.prog ops Q (o :: rest) a w := by
  obtain ⟨D, h1, h2⟩ := h
  have hz : (zeroValue 4).run Tryd.prog w = .ok (.bool false) w := by kernel_rfl
  refine wpList_look_run w hg m x _ hop hm hx (look_bool (string_keyed Tryd.underlying9) Tryd.underlying128 Tryd.underlying4 hz h1 (WideMaps.keyOf_string_mk Tryd.underlying9 hs) ?_) hK
  rw [h2]
  by_cases hT : s.data.toList ∈ T <;> simp [hT]
end Go.Proofs.YtbhfblogjlpnlabDoor
