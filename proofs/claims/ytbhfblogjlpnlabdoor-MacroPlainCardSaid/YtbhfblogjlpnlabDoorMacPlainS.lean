/-
  What MacroPlain's first loop goes by: how far the parts reach, and append of a part. No program's contract.
-/
import Derived.Test.YtbhfblogjlpnlabDoorMacFill
import Derived.OwnWalk
namespace Go.Proofs.YtbhfblogjlpnlabDoor
open Go.RowKit

/-- So many parts are put together, so many tokens. -/
def Joined (ts : List Tk6) (pss : List (List Tk6)) (i k : Nat) : Prop := (i = 0 ∧ k = 0 ∧ PartsOf ts pss) ∨ (0 < i ∧ ((pss.drop i = [] ∧ k = ts.length) ∨ (k < ts.length ∧ PartsR Tk6.mk3 (ts.drop (k + 1)) (pss.drop i))))

theorem joined_first {ts : List Tk6} {pss : List (List Tk6)} {p : List Tk6} (h : PartsOf ts pss) (hp : pss[0]? = some p) : p.length ≤ ts.length ∧ p = ts.take p.length ∧ Joined ts pss 1 p.length := by
  rcases h with ⟨_, rfl⟩ | ⟨h0, h⟩
  · cases hp
  · obtain ⟨rest, rfl, hr⟩ := parts_next h
    simp at hp
    subst hp
    have hle := partEnd_le Tk6.mk3 0 ts
    have hl : (ts.take (partEnd Tk6.mk3 0 ts)).length = partEnd Tk6.mk3 0 ts := by rw [List.length_take]; omega
    rw [hl]
    refine ⟨hle, rfl, .inr ⟨by decide, ?_⟩⟩
    rcases hr with ⟨h1, h2⟩ | ⟨h1, h2⟩
    · exact .inl ⟨by simp [h2], h1⟩
    · exact .inr ⟨h1, h2⟩
theorem joined_next {ts : List Tk6} {pss : List (List Tk6)} {p : List Tk6} {i k : Nat} (h : Joined ts pss i k) (hi : 0 < i) (hp : pss[i]? = some p) : k < ts.length ∧ k + 1 + p.length ≤ ts.length ∧ p = (ts.drop (k + 1)).take p.length ∧ Joined ts pss (i + 1) (k + 1 + p.length) := by
  rcases h with ⟨h0, _, _⟩ | ⟨_, ⟨hd, _⟩ | ⟨hk, hr⟩⟩
  · omega
  · have := List.drop_eq_nil_iff.1 hd
    have := (List.getElem?_eq_some_iff.1 hp).1
    omega
  · obtain ⟨hil, rfl⟩ := List.getElem?_eq_some_iff.1 hp
    rw [List.drop_eq_getElem_cons hil] at hr
    obtain ⟨rest, he, hn⟩ := parts_next hr
    injection he with he1 he2
    have hle := partEnd_le Tk6.mk3 0 (ts.drop (k + 1))
    rw [List.length_drop] at hle hn
    have hl : pss[i].length = partEnd Tk6.mk3 0 (ts.drop (k + 1)) := by rw [he1, List.length_take, List.length_drop]; omega
    refine ⟨hk, by omega, by rw [hl]; exact he1, .inr ⟨by omega, ?_⟩⟩
    rw [he2]
    rcases hn with ⟨h1, h2⟩ | ⟨h1, h2⟩
    · exact .inl ⟨h2, by omega⟩
    · refine .inr ⟨by omega, ?_⟩
      rw [List.drop_drop] at h2
      rw [hl]
      rw [show k + 1 + partEnd Tk6.mk3 0 (ts.drop (k + 1)) + 1 = k + 1 + (partEnd Tk6.mk3 0 (ts.drop (k + 1)) + 1) by omega]
      exact h2
theorem joined_end {ts : List Tk6} {pss : List (List Tk6)} {k : Nat} (h : Joined ts pss pss.length k) : k = ts.length := by
  rcases h with ⟨h0, rfl, h⟩ | ⟨_, ⟨_, hk⟩ | ⟨hk, hr⟩⟩
  · rcases h with ⟨rfl, _⟩ | ⟨_, h⟩
    · rfl
    · exact absurd (List.eq_nil_of_length_eq_zero h0) (parts_ne Tk6.mk3 h)
  · exact hk
  · rw [List.drop_length] at hr
    cases hr
theorem cells_part (ts p : List Tk6) (k : Nat) (h : p = (ts.drop k).take p.length) : cellsOf (ts.take (k + p.length)) = cellsOf (ts.take k) ++ cellsOf p := by
  rw [List.take_add, cellsOf_app]
  rw [← h]

/-- append of tokens of the call's own onto others. -/
theorem append_tok {ops : Array Oper} {rest : List Oper} {o : Oper} {a : Act} {Q : Exit → Act → World → Prop} {w : World} (hgd : o.guard = none) (s x : Operand)
    (ho : o.op = .call { callee := .builtin .append, args := #[s, x], argTypes := #[30, 30] }) (base n : Nat) (v : Value) (xs : List Value) (hs : a.eval s = v)
    (hown : w.ownsRow base 56 6 v n xs) (u : Value) (b2 : Nat) (ps : List Tk6) (hx : a.eval x = u) (hu : w.ownsRow b2 56 6 u ps.length (cellsOf ps)) (hle : n + ps.length ≤ 100000) (hbase : base ≤ w.heap.size)
    (h : ∀ v' w', w'.ownsRow base 56 6 v' (n + ps.length) (xs ++ cellsOf ps) → w.grownBy w' v.ownBlock → wpList Tryd.prog ops Q rest (a.put o.dst v') w') : wpList Tryd.prog ops Q (o :: rest) a w := by
  obtain ⟨i0, hi, hz0, hz1, hz2⟩ := info_parts Tryd.infoTok
  rcases hu.2 with ⟨rfl, h0⟩ | ⟨g, cap, cur, rfl, _⟩
  · refine wpList_plain hgd fun K hK => ?_
    have hr := run_append_owned_none (P := Tryd.prog) (w := w) base 30 o.type 56 i0 6 Tryd.underlying30 hi v n _ hown
    unfold Oper.wp execOp
    simp only [ho, resolve, invoke, builtin, Sem.run_bind, Sem.run_pure, Result.andThen_ok, List.map_toArray, List.map_cons, List.map_nil, hs, hx, hr]
    have hps := List.eq_nil_of_length_eq_zero h0
    subst hps
    refine hK _ _ (h v w (by simpa [cellsOf] using hown) ⟨rfl, rfl, rfl, Nat.le_refl _, fun _ _ _ => rfl⟩)
  · refine wpList_append_own w hgd s x 30 ho base 56 i0 (.agg #[.int .i64 0, .int .i64 0, .int .i64 0, .string ByteArray.empty, .int .u32 0, .int .i64 0]) 6 56 Tryd.underlying30 hi hz0 hz1 hz2 rfl (by decide) v n _ hs hown ⟨g, 0, none⟩ ps.length cap (cellsOf ps) hx (cellsOf_len ps) (fun j q hq => hu.cells (g := g) rfl j q hq) (cellsOf_one ps) (by unfold maxLen; omega) (by omega) hbase ?_
    intro v' w' h5 h6 _
    exact h v' w' h5 h6
end Go.Proofs.YtbhfblogjlpnlabDoor
