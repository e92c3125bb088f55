/-
  The contract of the reference lexer's line: the tokens that the document says, each with the line's number and its column, or the place and the reason of what is none. Condition: the string is of at most 65536 bytes.
-/
import Derived.Test.YtbhfblogjlpnlaaDoorRxTokC
import Derived.Test.YtbhfblogjlpnlaaDoorSpecLine
import Derived.OwnWalk
namespace Go.Proofs.YtbhfblogjlpnlaaDoor
open Go.RowKit

def Piece.cells (p : Piece) (line : Int) : List Value := [.int .i64 p.kind, .int .i64 line, .int .i64 (p.at_ + 1), .string (ba p.text), .int .u32 p.num, .int .i64 0]

def allCells (ps : List Piece) (line : Int) : List Value := ps.flatMap fun p => p.cells line
theorem allCells_len (ps : List Piece) (line : Int) : (allCells ps line).length = ps.length * 6 := by
  unfold allCells
  induction ps with
  | nil => rfl
  | cons p ps ih => rw [List.flatMap_cons, List.length_append, ih]; simp [Piece.cells]; omega
theorem allCells_snoc (ps : List Piece) (p : Piece) (line : Int) : allCells (ps ++ [p]) line = allCells ps line ++ p.cells line := by simp [allCells]

theorem Tryd.infoTok : (Tryd.prog.info? 39).map (fun i => (i.zero, i.size, i.bytes)) = some (some (.agg #[.int .i64 0, .int .i64 0, .int .i64 0, .string ByteArray.empty, .int .u32 0, .int .i64 0]), 6, 56) := by kernel_rfl

/-- The answer of line. -/
def LineOut (w0 : World) (ps : List Piece) (err : Option (Nat × Int)) (line : Int) (e : Ending) (w' : World) : Prop :=
  (match err with
  | none => ∃ v, e = .returned (.tuple #[v, .agg #[.int .i64 0, .int .i64 0, .int .i64 0]]) ∧ w'.ownsRow w0.heap.size 39 6 v ps.length (allCells ps line)
  | some (i, c) => e = .returned (.tuple #[.slice none 0 0, .agg #[.int .i64 line, .int .i64 ((i : Int) + 1), .int .i64 c]])) ∧ Below w0.heap.size w0 w'

/-- What holds at the loop's head: the tokens that are read, and those to come. -/
structure LineInv (s : ByteArray) (w0 : World) (all : List Piece) (err : Option (Nat × Int)) (line : Int) (k : Nat) (v : Value) (wr : World) (done rest : List Piece) : Prop where
  eq : err = none → done ++ rest = all
  lex : LexFrom s.data.toList k rest err
  own : wr.ownsRow (w0.heap.size + 1) 39 6 v done.length (allCells done line)
  few : done.length ≤ k
  below : Below (w0.heap.size + 1) (w0.alloc (.cells #[.int .i64 0, .int .i64 0, .int .i64 0] 30)) wr
def LineAt (s : ByteArray) (w0 : World) (all : List Piece) (err : Option (Nat × Int)) (line : Int) (k : Nat) (v : Value) (wr : World) : Prop := ∃ done rest, LineInv s w0 all err line k v wr done rest

theorem below_grownBy {w w' : World} (h : Below w.heap.size w w') (row : Option Nat) : w.grownBy w' row := ⟨h.os, h.tape, h.output, h.size, fun k hk _ => h.block k hk⟩
theorem own_below {w w' : World} {base : Nat} {e : TypeId} {size n : Nat} {v : Value} {xs : List Value} (h : w.ownsRow base e size v n xs) (hb : Below w.heap.size w w') : w'.ownsRow base e size v n xs :=
  h.kept (below_grownBy hb none) (by cases v.ownBlock <;> simp)
theorem own_base {w : World} {base base' : Nat} {e : TypeId} {size n : Nat} {v : Value} {xs : List Value} (h : w.ownsRow base e size v n xs) (hb : base' ≤ base) : w.ownsRow base' e size v n xs := by
  refine ⟨h.1, ?_⟩
  rcases h.2 with h2 | ⟨g, cap, cur, hv, hg, r⟩
  · exact Or.inl h2
  · exact Or.inr ⟨g, cap, cur, hv, by omega, r⟩
theorem cells_new (w : World) (cs : Array Value) (t : TypeId) (g : Nat) (hg : g = w.heap.size) : ∀ j u, cs.toList[j]? = some u → (w.alloc (.cells cs t)).cell? ((⟨g, 0, none⟩ : Addr).add j) = some u := by
  subst hg
  intro j u hu
  have hadd : (⟨w.heap.size, 0, none⟩ : Addr).add j = ⟨w.heap.size, j, none⟩ := by unfold Addr.add; split <;> simp_all
  rw [hadd, cell_of_row _ w.heap.size j cs t (0, 0) (heap_alloc_new w _)]
  simpa using hu

/-- What a round does that reads a token. -/
theorem line_step {s : ByteArray} {w0 wr w1 w2 : World} {all done ps : List Piece} {err : Option (Nat × Int)} {line : Int} {k n : Nat} {v v' : Value} {p : Piece} {o1 o2 : Obj}
    (heq : err = none → done ++ p :: ps = all) (hown : wr.ownsRow (w0.heap.size + 1) 39 6 v done.length (allCells done line)) (hf : done.length ≤ k) (hn : 1 ≤ n)
    (hbel : Below (w0.heap.size + 1) (w0.alloc (.cells #[.int .i64 0, .int .i64 0, .int .i64 0] 30)) wr) (hb1 : Below wr.heap.size wr w1)
    (hown' : w2.ownsRow (w0.heap.size + 1) 39 6 v' (done.length + 1) (allCells done line ++ p.cells line)) (hgrow : ((w1.alloc o1).alloc o2).grownBy w2 v.ownBlock)
    (hr : LexFrom s.data.toList (k + n) ps err) : LineAt s w0 all err line (k + n) v' w2 := by
  refine ⟨done ++ [p], ps, ⟨by simpa using heq, hr, ?_, by simp; omega, ?_⟩⟩
  · rw [allCells_snoc, List.length_append]; exact hown'
  · have hs := hbel.size
    simp at hs
    have hs1 := hb1.size
    refine Below.grown (((hbel.trans (hb1.mono hs)).alloc (by omega) o1).alloc (by simp; omega) o2) hgrow (by simp; omega) ?_
    intro g hg
    exact (hown.lt g hg).1

/-- The result's cells, in every world behind it. -/
structure FaultAt (w0 w : World) : Prop where
  f0 : w.cell? ⟨w0.heap.size, 0, none⟩ = some (.int .i64 0)
  f1 : w.cell? ⟨w0.heap.size, 1, none⟩ = some (.int .i64 0)
  f2 : w.cell? ⟨w0.heap.size, 2, none⟩ = some (.int .i64 0)
  z0 : w.frozen? ⟨w0.heap.size, 0, none⟩ = false
  z1 : w.frozen? ⟨w0.heap.size, 1, none⟩ = false
  z2 : w.frozen? ⟨w0.heap.size, 2, none⟩ = false
@[reducible] def zerosF : Obj := .cells #[.int .i64 0, .int .i64 0, .int .i64 0] 30
theorem faultAt {w0 w : World} (h : Below (w0.heap.size + 1) (w0.alloc zerosF) w) : FaultAt w0 w := by
  have g : ∀ i, w.cell? ⟨w0.heap.size, i, none⟩ = (w0.alloc zerosF).cell? ⟨w0.heap.size, i, none⟩ := fun i => h.cell (p := ⟨w0.heap.size, i, none⟩) (by simp)
  have z : ∀ i, w.frozen? ⟨w0.heap.size, i, none⟩ = (w0.alloc zerosF).frozen? ⟨w0.heap.size, i, none⟩ := fun i => h.frozen (p := ⟨w0.heap.size, i, none⟩) (by simp)
  refine ⟨(g 0).trans ?_, (g 1).trans ?_, (g 2).trans ?_, (z 0).trans ?_, (z 1).trans ?_, (z 2).trans ?_⟩ <;> simp
theorem below_of_fault {w0 w : World} (h : Below (w0.heap.size + 1) (w0.alloc zerosF) w) : Below w0.heap.size w0 w := ((Below.refl _ _).alloc (Nat.le_refl _) _).trans (h.mono (by omega))

set_option maxRecDepth 100000 in
set_option maxHeartbeats 2000000 in
theorem line_any (s : ByteArray) (line : Int) (ps : List Piece) (err : Option (Nat × Int)) (w : World) (hs : s.size ≤ 65536) (h : LexFrom s.data.toList 0 ps err) :
    Calls Tryd.prog 25 #[.string s, .int .i64 line] w (LineOut w ps err line) := by
  obtain ⟨i0, hi, hz0, hz1, hz2⟩ := info_parts Tryd.infoTok
  go_enter Tryd.func25, Tryd.ntmps25
  go_wp2
  go_loopw [6, 7] (fun v i wr => ∃ k : Nat, i = .int .i64 k ∧ LineAt s w ps err line k v wr) (fun _ i _ => s.size - (intOf i).toNat)
  case atStart => exact ⟨0, rfl, [], ps, fun _ => rfl, h, World.ownsRow_nil _ _ _ _, Nat.le_refl _, Below.refl _ _⟩
  case round =>
    obtain ⟨k, rfl, done, rest, heq, hlex, hown, hfew, hbel⟩ := hrel
    have HE := Lib.hid heq
    clear heq
    have hle := hlex.le
    rw [len_size] at hle
    have hle1 := hle.1
    have hle2 := hle.2
    clear hle
    have HB := Lib.hid hbel
    have HF := Lib.hid (faultAt hbel)
    have HL := Lib.hid (below_of_fault hbel)
    have hbs := hbel.size
    simp at hbs
    clear hbel
    have hat : ∀ (hk : k < s.size), s.data.toList.getD k 0 = s[k] := fun hk => at_getD s k hk
    have HAT := Lib.hid hat
    clear hat
    generalize hlen : s.data.toList.length = z at hlex
    cases hlex with
    | done =>
      rw [len_size] at hlen
      subst hlen
      have hd : done = ps := by have := HE.out rfl; simpa using this
      rw [hd] at hown
      have HO := Lib.hid hown
      obtain ⟨f0, f1, f2, z0, z1, z2⟩ := HF.out
      clear hown HF
      go_wp2
      exact bodyPost_ret (v := .tuple #[u6, .agg #[.int .i64 0, .int .i64 0, .int .i64 0]]) (by simp [results, Tryd.results25, go_sem, f0, f1, f2]) rfl
        ⟨⟨u6, rfl, own_base (ownsRow_setCell_below (ownsRow_setCell_below (ownsRow_setCell_below HO.out (by simp) _) (by simp) _) (by simp) _) (by omega)⟩, ((HL.out.setCell (by simp) _).setCell (by simp) _).setCell (by simp) _⟩
    | remark _ hk hr =>
      subst hlen
      rw [len_size] at hk
      have hd : done = ps := by have := HE.out rfl; simpa using this
      rw [hd] at hown
      have HO := Lib.hid hown
      obtain ⟨f0, f1, f2, z0, z1, z2⟩ := HF.out
      have hin := fun W => in_any s[k] setBlank W (by decide)
      rw [HAT.out hk] at hr
      rw [in_blank, hr] at hin
      have hin2 : ∀ W, Calls Tryd.prog 37 #[.int .u8 (s[k].toNat : Int), .string setBlank] W fun e w' => e = .returned (.bool false) ∧ W = w' := by rw [hr]; exact hin
      have HI := Lib.hid hin2
      have hr2 : ((s[k].toNat : Int) == 35) = true := by rw [hr]; rfl
      clear hown HF hr hin hin2
      go_wp2_with (go_at_call 37; refine (HI.out _).mono ?_; rintro e w' ⟨rfl, rfl⟩)
      exact bodyPost_ret (v := .tuple #[u6, .agg #[.int .i64 0, .int .i64 0, .int .i64 0]]) (by simp [results, Tryd.results25, go_sem, f0, f1, f2]) rfl
        ⟨⟨u6, rfl, own_base (ownsRow_setCell_below (ownsRow_setCell_below (ownsRow_setCell_below HO.out (by simp) _) (by simp) _) (by simp) _) (by omega)⟩, ((HL.out.setCell (by simp) _).setCell (by simp) _).setCell (by simp) _⟩
    | blank _ _ _ hk hb r =>
      subst hlen
      rw [len_size] at hk
      have hin := fun W => in_any s[k] setBlank W (by decide)
      rw [HAT.out hk] at hb
      rw [in_blank, hb] at hin
      have HI := Lib.hid hin
      have HR := Lib.hid r
      have HO := Lib.hid hown
      have HFE := Lib.hid hfew
      clear r hown hb hin hfew
      go_wp2_with (go_at_call 37; refine (HI.out _).mono ?_; rintro e w' ⟨rfl, rfl⟩)
      go_roundw
      case rel => exact ⟨k + 1, by go_num, done, rest, HE.out, HR.out, HO.out, Nat.le_succ_of_le HFE.out, HB.out⟩
      case measure => simp [intOf]; omega
    | bad _ code hk hb hr ht =>
      subst hlen
      rw [len_size] at hk
      have hin := fun W => in_any s[k] setBlank W (by decide)
      rw [HAT.out hk] at hb hr
      rw [in_blank, hb] at hin
      have HI := Lib.hid hin
      have hr2 : ((s[k].toNat : Int) == 35) = false := beq_nat_f (by decide) hr
      have htk := fun W => token_any (s.extract k s.size) W (by simp; omega) (by simp; omega)
      rw [ext_drop, ht] at htk
      have HT := Lib.hid htk
      clear hown HF hr hb hin ht htk
      go_wp2_with (first | (go_at_call 37; refine (HI.out _).mono ?_; rintro e w' ⟨rfl, rfl⟩) | (go_at_call 38; refine (HT.out _).mono ?_; rintro e w1 ⟨⟨kd, tx, vv, rfl⟩, hb1⟩; have hb2 := HB.out.trans (hb1.mono hbs); obtain ⟨f0, f1, f2, z0, z1, z2⟩ := faultAt hb2; have HL1 := Lib.hid (below_of_fault hb2); have hsz1 : w.heap.size < w1.heap.size := (by have := hb1.size; omega); clear hb2 hb1))
      exact bodyPost_ret (v := .tuple #[.slice none 0 0, .agg #[.int .i64 line, .int .i64 ((k : Int) + 1), .int .i64 code]]) (by simp [results, Tryd.results25, go_sem, f0, f1, f2, hsz1]) rfl
        ⟨rfl, (((HL1.out.setCell (by simp) _).setCell (by simp) _).setCell (by simp) _).alloc (by simp; omega) _⟩
    | tok _ n kd text num ps' _ hk hb hr ht r =>
      subst hlen
      rw [len_size] at hk
      have hin := fun W => in_any s[k] setBlank W (by decide)
      rw [HAT.out hk] at hb hr
      rw [in_blank, hb] at hin
      have HI := Lib.hid hin
      have hr2 : ((s[k].toNat : Int) == 35) = false := beq_nat_f (by decide) hr
      have htn := (tok_len ht).1
      have hn2 : ((n : Int) == 0) = false := by simp; omega
      have htk := fun W => token_any (s.extract k s.size) W (by simp; omega) (by simp; omega)
      rw [ext_drop, ht] at htk
      have HT := Lib.hid htk
      clear hr hb hin ht htk
      have hdl : done.length ≤ 65536 := by omega
      have hkn := r.le.1
      rw [len_size] at hkn
      have HR := Lib.hid r
      clear r
      have c1 := fun (w1 : World) => cells_new (w1.alloc (.cells #[.int .i64 kd, .int .i64 line, .int .i64 (k + 1), .string (ba text), .int .u32 num, .int .i64 0] 39)) #[.int .i64 kd, .int .i64 line, .int .i64 (k + 1), .string (ba text), .int .u32 num, .int .i64 0] 39 (w1.heap.size + 1) (by simp)
      have HC := Lib.hid c1
      have HFE := Lib.hid hfew
      clear c1 HF hfew
      go_wp2_with (first | (at_builtin; refine wpList_append_own _ rfl _ _ 36 rfl (w.heap.size + 1) 39 i0 (.agg #[.int .i64 0, .int .i64 0, .int .i64 0, .string ByteArray.empty, .int .u32 0, .int .i64 0]) 6 56 Tryd.underlying36 hi hz0 hz1 hz2 rfl (by decide) _ _ _ rfl (((own_below hown hb1).alloc _).alloc _) ⟨w1.heap.size + 1, 0, none⟩ 1 1 (Piece.cells ⟨k, kd, text, num⟩ line) rfl rfl (HC.out w1) (by intro u hu; simp [Piece.cells] at hu; rcases hu with rfl | rfl | rfl | rfl | rfl | rfl <;> rfl) (by unfold maxLen; omega) (by omega) (by have := hb1.size; simp; omega) ?_; intro v' w2 hown' hgrow _; have RR := line_step (k := k) (n := n) HE.out hown HFE.out htn HB.out hb1 hown' hgrow HR.out; clear hown' hgrow) | (go_at_call 37; refine (HI.out _).mono ?_; rintro e w' ⟨rfl, rfl⟩) | (go_at_call 38; refine (HT.out _).mono ?_; rintro e w1 ⟨⟨code, rfl⟩, hb1⟩))
      go_roundw
      case rel => exact ⟨k + n, by go_num, RR⟩
      case measure => simp [intOf]; omega
end Go.Proofs.YtbhfblogjlpnlaaDoor
