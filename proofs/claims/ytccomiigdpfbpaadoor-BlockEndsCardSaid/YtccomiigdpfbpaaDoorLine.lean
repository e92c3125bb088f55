/-
  The contract of the reference lexer's line, for a string whose tokens are known one by one: the tokens are those, each with the line's number and its column. Conditions: the string is of at most 65536 bytes; token answers each of its tokens as said.
-/
import Derived.Test.YtccomiigdpfbpaaDoorTok
import Derived.OwnWalk
namespace Go.Proofs.YtccomiigdpfbpaaDoor
open Go.RowKit

/-- Space, tab, carriage return. -/
def setBlank : ByteArray := ⟨#[32, 9, 13]⟩

/-- What token answers at a string, in every world. -/
def TokenIs (s : ByteArray) (k : Int) (text : ByteArray) (num : Int) (n : Nat) : Prop :=
  ∃ code, ∀ w : World, Calls Tryd.prog 36 #[.string s] w (TokOut w k text num n code)

/-- A token that a line has: where it begins, its kind, its text, its number. -/
structure Piece where
  at_ : Nat
  kind : Int
  text : ByteArray
  num : Int

def Piece.cells (p : Piece) (line : Int) : List Value := [.int .i64 p.kind, .int .i64 line, .int .i64 (p.at_ + 1), .string p.text, .int .u32 p.num, .int .i64 0]

/-- From a place on, a string is just these tokens. -/
inductive LexFrom (s : ByteArray) : Nat → List Piece → Prop
  | done : LexFrom s s.size []
  | blank (i : Nat) (ps : List Piece) (h : i < s.size) (hb : inSet s[i] setBlank = true) (r : LexFrom s (i + 1) ps) : LexFrom s i ps
  | tok (i n : Nat) (k : Int) (text : ByteArray) (num : Int) (ps : List Piece) (h : i < s.size) (hb : inSet s[i] setBlank = false) (hr : ¬ (s[i].toNat : Int) = 35)
      (ht : TokenIs (s.extract i s.size) k text num n) (hn : 0 < n) (r : LexFrom s (i + n) ps) : LexFrom s i (⟨i, k, text, num⟩ :: ps)

theorem LexFrom.le {s : ByteArray} {i : Nat} {ps : List Piece} (h : LexFrom s i ps) : i ≤ s.size ∧ ps.length ≤ s.size - i := by
  induction h with
  | done => simp
  | blank i ps h hb r ih => omega
  | tok i n k text num ps h hb hr ht hn r ih => simp; omega

def allCells (ps : List Piece) (line : Int) : List Value := ps.flatMap fun p => p.cells line
theorem allCells_len (ps : List Piece) (line : Int) : (allCells ps line).length = ps.length * 6 := by
  unfold allCells
  induction ps with
  | nil => rfl
  | cons p ps ih => rw [List.flatMap_cons, List.length_append, ih]; simp [Piece.cells]; omega
theorem allCells_snoc (ps : List Piece) (p : Piece) (line : Int) : allCells (ps ++ [p]) line = allCells ps line ++ p.cells line := by simp [allCells]

theorem Tryd.infoTok : (Tryd.prog.info? 63).map (fun i => (i.zero, i.size, i.bytes)) = some (some (.agg #[.int .i64 0, .int .i64 0, .int .i64 0, .string ByteArray.empty, .int .u32 0, .int .i64 0]), 6, 56) := by kernel_rfl

/-- The answer of line. -/
def LineOut (w0 : World) (ps : List Piece) (line : Int) (e : Ending) (w' : World) : Prop :=
  ∃ v, e = .returned (.tuple #[v, .agg #[.int .i64 0, .int .i64 0, .int .i64 0]]) ∧ w'.ownsRow w0.heap.size 63 6 v ps.length (allCells ps line) ∧ Below w0.heap.size w0 w'

/-- What holds at the loop's head: the tokens that are read, and those to come. -/
structure LineInv (s : ByteArray) (w0 : World) (all : List Piece) (line : Int) (k : Nat) (v : Value) (wr : World) (done rest : List Piece) : Prop where
  eq : done ++ rest = all
  lex : LexFrom s k rest
  own : wr.ownsRow (w0.heap.size + 1) 63 6 v done.length (allCells done line)
  below : Below (w0.heap.size + 1) (w0.alloc (.cells #[.int .i64 0, .int .i64 0, .int .i64 0] 30)) wr
def LineAt (s : ByteArray) (w0 : World) (all : List Piece) (line : Int) (k : Nat) (v : Value) (wr : World) : Prop := ∃ done rest, LineInv s w0 all line k v wr done rest

theorem below_grownBy {w w' : World} (h : Below w.heap.size w w') (row : Option Nat) : w.grownBy w' row := ⟨h.os, h.tape, h.output, h.size, fun k hk _ => h.block k hk⟩
theorem own_below {w w' : World} {base : Nat} {e : TypeId} {size n : Nat} {v : Value} {xs : List Value} (h : w.ownsRow base e size v n xs) (hb : Below w.heap.size w w') : w'.ownsRow base e size v n xs :=
  h.kept (below_grownBy hb none) (by cases v.ownBlock <;> simp)
theorem own_base {w : World} {base base' : Nat} {e : TypeId} {size n : Nat} {v : Value} {xs : List Value} (h : w.ownsRow base e size v n xs) (hb : base' ≤ base) : w.ownsRow base' e size v n xs := by
  refine ⟨h.1, ?_⟩
  rcases h.2 with h2 | ⟨g, cap, cur, hv, hg, r⟩
  · exact Or.inl h2
  · exact Or.inr ⟨g, cap, cur, hv, by omega, r⟩
theorem cells_new (w : World) (cs : Array Value) (t : TypeId) (g : Nat) (hg : g = w.heap.size) : ∀ j u, cs.toList[j]? = some u → (w.alloc (.cells cs t)).cell? ((⟨g, 0, none⟩ : Addr).add j) = some u := by
  subst hg
  intro j u hu
  have hadd : (⟨w.heap.size, 0, none⟩ : Addr).add j = ⟨w.heap.size, j, none⟩ := by unfold Addr.add; split <;> simp_all
  rw [hadd, cell_of_row _ w.heap.size j cs t (0, 0) (heap_alloc_new w _)]
  simpa using hu

/-- What a round does that reads a token. -/
theorem line_step {s : ByteArray} {w0 wr w1 w2 : World} {all done ps : List Piece} {line : Int} {k n : Nat} {v v' : Value} {p : Piece} {o1 o2 : Obj}
    (heq : done ++ p :: ps = all) (hown : wr.ownsRow (w0.heap.size + 1) 63 6 v done.length (allCells done line))
    (hbel : Below (w0.heap.size + 1) (w0.alloc (.cells #[.int .i64 0, .int .i64 0, .int .i64 0] 30)) wr) (hb1 : Below wr.heap.size wr w1)
    (hown' : w2.ownsRow (w0.heap.size + 1) 63 6 v' (done.length + 1) (allCells done line ++ p.cells line)) (hgrow : ((w1.alloc o1).alloc o2).grownBy w2 v.ownBlock)
    (hr : LexFrom s (k + n) ps) : LineAt s w0 all line (k + n) v' w2 := by
  refine ⟨done ++ [p], ps, ⟨by simpa using heq, hr, ?_, ?_⟩⟩
  · rw [allCells_snoc, List.length_append]; exact hown'
  · have hs := hbel.size
    simp at hs
    have hs1 := hb1.size
    refine Below.grown (((hbel.trans (hb1.mono hs)).alloc (by omega) o1).alloc (by simp; omega) o2) hgrow (by simp; omega) ?_
    intro g hg
    exact (hown.lt g hg).1

set_option maxRecDepth 100000 in
set_option maxHeartbeats 2000000 in
theorem line_any (s : ByteArray) (line : Int) (ps : List Piece) (w : World) (hs : s.size ≤ 65536) (h : LexFrom s 0 ps) :
    Calls Tryd.prog 24 #[.string s, .int .i64 line] w (LineOut w ps line) := by
  obtain ⟨i0, hi, hz0, hz1, hz2⟩ := info_parts Tryd.infoTok
  go_enter Tryd.func24, Tryd.ntmps24
  go_wp2
  go_loopw [6, 7] (fun v i wr => ∃ k : Nat, i = .int .i64 k ∧ LineAt s w ps line k v wr) (fun _ i _ => s.size - (intOf i).toNat)
  case atStart => exact ⟨0, rfl, [], ps, rfl, h, World.ownsRow_nil _ _ _ _, Below.refl _ _⟩
  case round =>
    obtain ⟨k, rfl, done, rest, heq, hlex, hown, hbel⟩ := hrel
    have HE := Lib.hid heq
    clear heq
    have HB := Lib.hid hbel
    clear hbel
    have hle := hlex.le
    cases hlex with
    | done =>
      have hd : done = ps := by have := HE.out; simpa using this
      rw [hd] at hown
      have HO := Lib.hid hown
      clear hown
      have hf := HB.out.cell (p := ⟨w.heap.size, 0, none⟩) (by simp)
      have hf1 := HB.out.cell (p := ⟨w.heap.size, 1, none⟩) (by simp)
      have hf2 := HB.out.cell (p := ⟨w.heap.size, 2, none⟩) (by simp)
      have hz := HB.out.frozen (p := ⟨w.heap.size, 0, none⟩) (by simp)
      have hz1' := HB.out.frozen (p := ⟨w.heap.size, 1, none⟩) (by simp)
      have hz2' := HB.out.frozen (p := ⟨w.heap.size, 2, none⟩) (by simp)
      simp at hf hf1 hf2 hz hz1' hz2'
      have hbl : Below w.heap.size w wr := ((Below.refl _ _).alloc (Nat.le_refl _) _).trans (HB.out.mono (by omega))
      have HL := Lib.hid hbl
      clear hbl
      go_wp2
      exact bodyPost_ret (v := .tuple #[u6, .agg #[.int .i64 0, .int .i64 0, .int .i64 0]]) (by simp [results, Tryd.results24, go_sem, hf, hf1, hf2]) rfl
        ⟨u6, rfl, own_base (ownsRow_setCell_below (ownsRow_setCell_below (ownsRow_setCell_below HO.out (by simp) _) (by simp) _) (by simp) _) (by omega), ((HL.out.setCell (by simp) _).setCell (by simp) _).setCell (by simp) _⟩
    | blank _ _ hk hb r =>
      have hin := fun W => in_any s[k] setBlank W (by decide)
      rw [hb] at hin
      clear hb
      have HR := Lib.hid r
      clear r
      have HO := Lib.hid hown
      clear hown
      go_wp2_with (go_at_call 35; refine (hin _).mono ?_; rintro e w' ⟨rfl, rfl⟩)
      go_roundw
      case rel => exact ⟨k + 1, by go_num, done, rest, HE.out, HR.out, HO.out, HB.out⟩
      case measure => simp [intOf]; omega
    | tok _ n kd text num ps' hk hb hr ht hn r =>
      have hin := fun W => in_any s[k] setBlank W (by decide)
      rw [hb] at hin
      clear hb
      have hr2 : ((s[k].toNat : Int) == 35) = false := by simpa using hr
      have hn2 : ((n : Int) == 0) = false := by simp; omega
      clear hr
      obtain ⟨code, ht⟩ := ht
      have hdl : done.length ≤ 65536 := by
        have h1 := h.le
        have h2 := congrArg List.length HE.out
        rw [List.length_append] at h2
        omega
      have hbs := HB.out.size
      simp at hbs
      have hkn := r.le
      have HR := Lib.hid r
      clear r
      have c1 := fun (w1 : World) => cells_new (w1.alloc (.cells #[.int .i64 kd, .int .i64 line, .int .i64 (k + 1), .string text, .int .u32 num, .int .i64 0] 63)) #[.int .i64 kd, .int .i64 line, .int .i64 (k + 1), .string text, .int .u32 num, .int .i64 0] 63 (w1.heap.size + 1) (by simp)
      have HC := Lib.hid c1
      clear c1
      go_wp2_with (first | (at_builtin; refine wpList_append_own _ rfl _ _ 35 rfl (w.heap.size + 1) 63 i0 (.agg #[.int .i64 0, .int .i64 0, .int .i64 0, .string ByteArray.empty, .int .u32 0, .int .i64 0]) 6 56 Tryd.underlying35 hi hz0 hz1 hz2 rfl (by decide) _ _ _ rfl (((own_below hown hb1).alloc _).alloc _) ⟨w1.heap.size + 1, 0, none⟩ 1 1 (Piece.cells ⟨k, kd, text, num⟩ line) rfl rfl (HC.out w1) (by intro u hu; simp [Piece.cells] at hu; rcases hu with rfl | rfl | rfl | rfl | rfl | rfl <;> rfl) (by unfold maxLen; omega) (by omega) (by have := hb1.size; simp; omega) ?_; intro v' w2 hown' hgrow _; have RR := line_step (k := k) (n := n) HE.out hown HB.out hb1 hown' hgrow HR.out; clear hown' hgrow) | (go_at_call 35; refine (hin _).mono ?_; rintro e w' ⟨rfl, rfl⟩) | (go_at_call 36; refine (ht _).mono ?_; rintro e w1 ⟨rfl, hb1⟩))
      go_roundw
      case rel => exact ⟨k + n, by go_num, RR⟩
      case measure => simp [intOf]; omega
end Go.Proofs.YtccomiigdpfbpaaDoor
