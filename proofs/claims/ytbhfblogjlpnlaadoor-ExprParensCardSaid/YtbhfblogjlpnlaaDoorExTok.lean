/-
  Tokens in the memory: their cells, a slice of them, where a fault at one of them lies. No program's contract.
-/
import Derived.Test.YtbhfblogjlpnlaaDoorProg
import Derived.WalkKit
import Derived.Below
import Derived.Lib.Hide
import Derived.BigQuiet
import Derived.Laws.OwnMore
namespace Go.Proofs.YtbhfblogjlpnlaaDoor
open Go.RowKit

theorem addr0 (g j : Nat) : (⟨g, 0, none⟩ : Addr).add j = ⟨g, j, none⟩ := by unfold Addr.add; split <;> simp_all
/-- A token, of any fields. -/
structure Tk6 where
  kind : Int
  line : Int
  col : Int
  text : ByteArray
  num : Int
  spare : Int
def Tk6.cells (t : Tk6) : List Value := [.int .i64 t.kind, .int .i64 t.line, .int .i64 t.col, .string t.text, .int .u32 t.num, .int .i64 t.spare]

/-- A slice of tokens. -/
def Toks (w : World) (v : Value) (ts : List Tk6) : Prop := (∃ (A : Option Addr) (c : Nat), v = .slice A 0 c ∧ c ≤ maxLen ∧ ts = []) ∨ ∃ (b o c : Nat), v = .slice (some ⟨b, o, none⟩) ts.length c ∧ ts.length ≤ c ∧ c ≤ maxLen ∧ b < w.heap.size ∧ ∀ (i : Nat) (t : Tk6), ts[i]? = some t → ∀ (j : Nat) (u : Value), t.cells[j]? = some u → w.cell? ⟨b, o + i * 6 + j, none⟩ = some u
theorem Toks.below {w w' : World} {v : Value} {ts : List Tk6} (h : Toks w v ts) (hb : Below w.heap.size w w') : Toks w' v ts :=
  h.imp id fun ⟨b, o, c, h1, h2, h3, h4, h5⟩ => ⟨b, o, c, h1, h2, h3, Nat.lt_of_lt_of_le h4 hb.size, fun i t hi j u hj => (hb.cell (p := ⟨b, o + i * 6 + j, none⟩) h4).trans (h5 i t hi j u hj)⟩

/-- Is a token this Mark? -/
def Tk6.isM (t : Tk6) (s : ByteArray) : Bool := t.kind == 7 && t.text.toList == s.toList
theorem Toks.form {w : World} {v : Value} {ts : List Tk6} (h : Toks w v ts) : ∃ A c, v = .slice A ts.length c ∧ ts.length ≤ c ∧ c ≤ maxLen ∧ ∀ (i : Nat) (t : Tk6), ts[i]? = some t → ∃ b o, A = some ⟨b, o, none⟩ ∧ ∀ W, Below w.heap.size w W → W.cell? ⟨b, o + i * 6, none⟩ = some (.int .i64 t.kind) ∧ W.cell? ⟨b, o + i * 6 + 1, none⟩ = some (.int .i64 t.line) ∧ W.cell? ⟨b, o + i * 6 + 2, none⟩ = some (.int .i64 t.col) ∧ W.cell? ⟨b, o + i * 6 + 3, none⟩ = some (.string t.text) ∧ W.cell? ⟨b, o + i * 6 + 4, none⟩ = some (.int .u32 t.num) ∧ W.cell? ⟨b, o + i * 6 + 5, none⟩ = some (.int .i64 t.spare) := by
  rcases h with ⟨A, c, rfl, hc, rfl⟩ | ⟨b, o, c, rfl, h2, h3, h4, h5⟩
  · exact ⟨A, c, rfl, Nat.zero_le _, hc, fun i t h => by simp at h⟩
  · refine ⟨_, c, rfl, h2, h3, fun i t hi => ⟨b, o, rfl, fun W hW => ?_⟩⟩
    have hc : ∀ (j : Nat) (u : Value), t.cells[j]? = some u → W.cell? ⟨b, o + i * 6 + j, none⟩ = some u := fun j u hj => (hW.cell (p := ⟨b, o + i * 6 + j, none⟩) h4).trans (h5 i t hi j u hj)
    exact ⟨hc 0 _ rfl, hc 1 _ rfl, hc 2 _ rfl, hc 3 _ rfl, hc 4 _ rfl, hc 5 _ rfl⟩

/-! Cells of tokens. -/
def cellsOf (ps : List Tk6) : List Value := ps.flatMap Tk6.cells
theorem cellsOf_len (ps : List Tk6) : (cellsOf ps).length = ps.length * 6 := by
  induction ps with
  | nil => rfl
  | cons t ps ih =>
    have h : cellsOf (t :: ps) = t.cells ++ cellsOf ps := rfl
    have h6 : t.cells.length = 6 := rfl
    rw [h, List.length_append, ih, List.length_cons, h6]
    omega
theorem cellsOf_app (ps qs : List Tk6) : cellsOf (ps ++ qs) = cellsOf ps ++ cellsOf qs := by simp [cellsOf]
theorem cellsOf_one (ps : List Tk6) : ∀ u ∈ cellsOf ps, u.oneCell' = true := by
  intro u hu
  obtain ⟨t, _, ht⟩ := List.mem_flatMap.1 hu
  simp [Tk6.cells] at ht
  rcases ht with rfl | rfl | rfl | rfl | rfl | rfl <;> rfl
theorem cellsOf_seg (ts : List Tk6) (a e : Nat) (ha : a + e ≤ ts.length) : ∀ q u, (cellsOf ((ts.drop a).take e))[q]? = some u → (cellsOf ts)[a * 6 + q]? = some u := by
  intro q u hu
  have hq : q < e * 6 := by
    have := (List.getElem?_eq_some_iff.1 hu).1
    rw [cellsOf_len, List.length_take, List.length_drop] at this
    omega
  have h : ts = ts.take a ++ ((ts.drop a).take e ++ (ts.drop a).drop e) := by rw [List.take_append_drop, List.take_append_drop]
  rw [h, cellsOf_app, cellsOf_app, List.getElem?_append_right (by rw [cellsOf_len, List.length_take]; omega), cellsOf_len, List.length_take, Nat.min_eq_left (by omega), Nat.add_sub_cancel_left, List.getElem?_append_left (by rw [cellsOf_len, List.length_take, List.length_drop]; omega)]
  exact hu
theorem cellsOf_at : ∀ (ts : List Tk6) (w : World) (b o : Nat), (∀ (i : Nat) (t : Tk6), ts[i]? = some t → ∀ (j : Nat) (u : Value), t.cells[j]? = some u → w.cell? ⟨b, o + i * 6 + j, none⟩ = some u) → ∀ q u, (cellsOf ts)[q]? = some u → w.cell? ⟨b, o + q, none⟩ = some u
  | [], _, _, _, _, q, u, hu => by simp [cellsOf] at hu
  | t :: ts, w, b, o, h, q, u, hu => by
    have hc : cellsOf (t :: ts) = t.cells ++ cellsOf ts := rfl
    have h6 : t.cells.length = 6 := rfl
    rw [hc] at hu
    rcases Nat.lt_or_ge q 6 with hq | hq
    · rw [List.getElem?_append_left (by rw [h6]; exact hq)] at hu
      have := h 0 t rfl q u hu
      rwa [Nat.zero_mul, Nat.add_zero] at this
    · rw [List.getElem?_append_right (by rw [h6]; exact hq), h6] at hu
      have := cellsOf_at ts w b (o + 6) (fun i s hi j u hj => by
        have := h (i + 1) s (by simpa using hi) j u hj
        rwa [show o + (i + 1) * 6 + j = o + 6 + i * 6 + j by omega] at this) (q - 6) u hu
      rwa [show o + 6 + (q - 6) = o + q by omega] at this
theorem toks_of_own {w : World} {base n : Nat} {u : Value} {ps : List Tk6} (h : w.ownsRow base 39 6 u n (cellsOf ps)) (hn : n = ps.length) : Toks w u ps := by
  subst hn
  rcases h.2 with ⟨rfl, h0⟩ | ⟨g, cap, cur, rfl, hg, hh, hc, hm, _, _⟩
  · exact .inl ⟨none, 0, rfl, Nat.zero_le _, List.eq_nil_of_length_eq_zero h0⟩
  · refine .inr ⟨g, 0, cap, rfl, hc, hm, (Array.getElem?_eq_some_iff.1 hh).1, fun i t hi j u hj => ?_⟩
    have hadd : ∀ j, (⟨g, 0, none⟩ : Addr).add j = ⟨g, j, none⟩ := fun j => by unfold Addr.add; split <;> simp_all
    have hil : i < ps.length := (List.getElem?_eq_some_iff.1 hi).1
    have hj6 : j < 6 := (List.getElem?_eq_some_iff.1 hj).1
    have hseg : (cellsOf ((ps.drop i).take 1))[j]? = some u := by
      have : (ps.drop i).take 1 = [t] := by
        rw [List.drop_eq_getElem_cons hil]
        rw [List.getElem?_eq_getElem hil] at hi
        injection hi with hi
        rw [hi]
        rfl
      rw [this]
      show (t.cells ++ [])[j]? = some u
      rw [List.append_nil]
      exact hj
    have := h.cells (g := g) rfl (i * 6 + j) u (cellsOf_seg ps i 1 (by omega) j u hseg)
    rw [hadd] at this
    rwa [Nat.zero_add]
/-- Where a fault lies: at a token, or at the last one. -/
def placeAt (ts : List Tk6) (i : Nat) : Int × Int :=
  match ts[i]? with
  | some t => (t.line, t.col)
  | none => match ts.getLast? with
    | some t => (t.line, t.col)
    | none => (0, 0)
@[reducible] def Tk6.val (t : Tk6) : Value := .agg #[.int .i64 t.kind, .int .i64 t.line, .int .i64 t.col, .string t.text, .int .u32 t.num, .int .i64 t.spare]
end Go.Proofs.YtbhfblogjlpnlaaDoor
