/-
  What the laws of the lexer's layer want: two tokens held against each other, the cells of the lines that are read, bytes that are written out.
-/
import Derived.Test.YtbhfblogjlpnlaaDoorIxLinesN
import Derived.Test.YtbhfblogjlpnlaaDoorKept
namespace Go.Proofs.YtbhfblogjlpnlaaDoor
open Go.RowKit

theorem eql_toks (k k' l l' c c' n n' s s' : Int) (t t' : ByteArray) (w : World) : (binOp .eql 39 (.agg #[.int .i64 k, .int .i64 l, .int .i64 c, .string t, .int .u32 n, .int .i64 s]) (.agg #[.int .i64 k', .int .i64 l', .int .i64 c', .string t', .int .u32 n', .int .i64 s'])).run Tryd.prog w
    = .ok (.bool ((k == k') && ((l == l') && ((c == c') && ((t.toList == t'.toList) && ((n == n') && (s == s'))))))) w := by
  have h1 : Tryd.prog.underlying 39 = some (.struct (Tryd.prog.fieldsOf 39)) := by kernel_rfl
  have h2 : Tryd.prog.stoodInHeld 39 = false := by kernel_rfl
  have h3 : (Tryd.prog.fieldsOf 39).toList = [⟨"Kind", 3, 0, false, "", "", 0⟩, ⟨"Line", 3, 1, false, "", "", 8⟩, ⟨"Col", 3, 2, false, "", "", 16⟩, ⟨"Text", 9, 3, false, "", "", 24⟩, ⟨"Num", 37, 4, false, "", "", 40⟩, ⟨"Scope", 3, 5, false, "", "", 48⟩] := by kernel_rfl
  have hp : Tryd.prog.plainKey 3 = true := by kernel_rfl
  have hq : Tryd.prog.plainKey 9 = true := by kernel_rfl
  have hu : Tryd.prog.plainKey 37 = true := by kernel_rfl
  have p0 := fun W k l c t n s => run_part_plain (P := Tryd.prog) (e := 3) hp (xs := #[.int .i64 k, .int .i64 l, .int .i64 c, .string t, .int .u32 n, .int .i64 s]) (off := 0) (v := .int .i64 k) (w := W) rfl
  have p1 := fun W k l c t n s => run_part_plain (P := Tryd.prog) (e := 3) hp (xs := #[.int .i64 k, .int .i64 l, .int .i64 c, .string t, .int .u32 n, .int .i64 s]) (off := 1) (v := .int .i64 l) (w := W) rfl
  have p2 := fun W k l c t n s => run_part_plain (P := Tryd.prog) (e := 3) hp (xs := #[.int .i64 k, .int .i64 l, .int .i64 c, .string t, .int .u32 n, .int .i64 s]) (off := 2) (v := .int .i64 c) (w := W) rfl
  have p3 := fun W k l c t n s => run_part_plain (P := Tryd.prog) (e := 9) hq (xs := #[.int .i64 k, .int .i64 l, .int .i64 c, .string t, .int .u32 n, .int .i64 s]) (off := 3) (v := .string t) (w := W) rfl
  have p4 := fun W k l c t n s => run_part_plain (P := Tryd.prog) (e := 37) hu (xs := #[.int .i64 k, .int .i64 l, .int .i64 c, .string t, .int .u32 n, .int .i64 s]) (off := 4) (v := .int .u32 n) (w := W) rfl
  have p5 := fun W k l c t n s => run_part_plain (P := Tryd.prog) (e := 3) hp (xs := #[.int .i64 k, .int .i64 l, .int .i64 c, .string t, .int .u32 n, .int .i64 s]) (off := 5) (v := .int .i64 s) (w := W) rfl
  rw [run_eql_struct, run_equalIn_struct _ _ _ _ _ h1 h2, h3]
  cases hk : k == k' <;> cases hl : l == l' <;> cases hc : c == c' <;> cases ht : t.toList == t'.toList <;> cases hn : n == n' <;> cases hs : s == s' <;> simp [Op.eqFields, p0, p1, p2, p3, p4, p5, run_equalIn_int _ _ _ .i64 .i64 _ _ Tryd.underlying3, run_equalIn_int _ _ _ .u32 .u32 _ _ Tryd.underlying37, run_equalIn_string _ _ _ _ _ Tryd.underlying9, hk, hl, hc, ht, hn, hs]

/-- Where the tokens of a line lie. -/
structure LineCells (w : World) (base g i : Nat) (ps : List Piece) (gi ci : Nat) : Prop where
  row : w.cell? ⟨g, i, none⟩ = some (.slice (some ⟨gi, 0, none⟩) ps.length ci)
  cell : ∀ (j : Nat) (x : Value), (allCells ps ((i : Int) + 1))[j]? = some x → w.cell? ⟨gi, j, none⟩ = some x
  cap : ps.length ≤ ci
  own : base ≤ gi
theorem LineCells.below {w w' : World} {base g i gi ci : Nat} {ps : List Piece} (h : LineCells w base g i ps gi ci) (hb : Below w.heap.size w w') : LineCells w' base g i ps gi ci := by
  refine ⟨(hb.cell (p := ⟨g, i, none⟩) (World.block_lt_of_cell? w ⟨g, i, none⟩ h.row)).trans h.row, fun j x hx => ?_, h.cap, h.own⟩
  have := h.cell j x hx
  exact (hb.cell (p := ⟨gi, j, none⟩) (World.block_lt_of_cell? w ⟨gi, j, none⟩ this)).trans this

theorem lines_form {w : World} {base : Nat} {v : Value} {us : List Value} {all : List (List Piece)} (hown : w.ownsRow base 36 1 v all.length us) (h : all ≠ []) : ∃ g cp, v = .slice (some ⟨g, 0, none⟩) all.length cp ∧ all.length ≤ cp ∧ base ≤ g ∧ ∀ (i : Nat) (u : Value), us[i]? = some u → w.cell? ⟨g, i, none⟩ = some u := by
  rcases hown.2 with ⟨_, h0⟩ | ⟨g, cap, cur, rfl, hg, _, hc, _⟩
  · exact absurd (List.eq_nil_of_length_eq_zero h0) h
  · refine ⟨g, cap, rfl, hc, hg, fun i u hu => ?_⟩
    have hadd : (⟨g, 0, none⟩ : Addr).add i = ⟨g, i, none⟩ := by unfold Addr.add; split <;> simp_all
    have := hown.cells (g := g) rfl i u hu
    rwa [hadd] at this
theorem line_cells {w : World} {base g i : Nat} {us : List Value} {all : List (List Piece)} {ps : List Piece} (hl : LinesAt w base us all) (hr : ∀ (i : Nat) (u : Value), us[i]? = some u → w.cell? ⟨g, i, none⟩ = some u) (hi : all[i]? = some ps) (hne : ps ≠ []) : ∃ gi ci, LineCells w base g i ps gi ci := by
  obtain ⟨u, hu, ho⟩ := hl.2 i ps hi
  rcases ho.2 with ⟨_, h0⟩ | ⟨gi, ci, cur, rfl, hg, _, hc, _⟩
  · exact absurd (List.eq_nil_of_length_eq_zero h0) hne
  · refine ⟨gi, ci, hr i _ hu, fun j x hx => ?_, hc, hg⟩
    have hadd : (⟨gi, 0, none⟩ : Addr).add j = ⟨gi, j, none⟩ := by unfold Addr.add; split <;> simp_all
    have := ho.cells (g := gi) rfl j x hx
    rwa [hadd] at this

/-- Bytes that are written out. -/
theorem bytes_lit (w : World) (s : ByteArray) (cs : Array Value) (t : TypeId) (fz : Nat × Nat) (g : Nat) (hg : g = w.heap.size) (h : cs.toList = s.data.toList.map (fun c => Value.int .u8 (c.toNat : Int))) : Bytes (w.alloc (.cells cs t fz)) g 0 s := by
  subst hg
  refine ⟨by simp, fun j hj => ?_⟩
  rw [Nat.zero_add, cell_of_row _ w.heap.size j _ t fz (heap_alloc_new w _), ← Array.getElem?_toList, h, List.getElem?_map]
  have h2 : j < s.data.toList.length := by simpa using hj
  rw [List.getElem?_eq_getElem h2]
  rfl
end Go.Proofs.YtbhfblogjlpnlaaDoor
