/-
  The lexer's layer is awake. Conditions: the handle of the type error; the variable internal/bytealg.MaxLen holds a number.
-/
import Derived.Test.YtbhfblogjlpnlaaDoorLxBase
import Derived.Lib.SlBytesConst
namespace Go.Proofs.YtbhfblogjlpnlaaDoor
open Go.RowKit

def srcA : ByteArray := ⟨#[108, 105, 32, 97, 48, 44, 32, 48, 120, 49, 70, 32, 35, 32, 120]⟩
def srcB : ByteArray := ⟨#[10, 32, 32, 36]⟩
def lineA : List Piece := [⟨0, 1, [108, 105], 0⟩, ⟨3, 1, [97, 48], 0⟩, ⟨5, 7, [44], 0⟩, ⟨7, 5, [], 31⟩]
theorem readA : LinesR 0 (cut srcA.data.toList) [lineA] none := by
  refine .good 0 [108, 105, 32, 97, 48, 44, 32, 48, 120, 49, 70, 32, 35, 32, 120] [] lineA [] none ?_ (.nil 1)
  refine .tok 0 2 1 [108, 105] 0 _ none (by decide) (by decide) (by decide) rfl ?_
  refine .blank 2 _ none (by decide) (by decide) ?_
  refine .tok 3 2 1 [97, 48] 0 _ none (by decide) (by decide) (by decide) rfl ?_
  refine .tok 5 1 7 [44] 0 _ none (by decide) (by decide) (by decide) rfl ?_
  refine .blank 6 _ none (by decide) (by decide) ?_
  refine .tok 7 4 5 [] 31 _ none (by decide) (by decide) (by decide) rfl ?_
  refine .blank 11 _ none (by decide) (by decide) ?_
  exact .remark 12 (by decide) rfl
theorem readB : LinesR 0 (cut srcB.data.toList) [[]] (some (1, 2, 2)) := by
  refine .good 0 [] [[32, 32, 36]] [] [] _ .done ?_
  refine .bad 1 [32, 32, 36] [] [] 2 2 ?_
  refine .blank 0 _ _ (by decide) (by decide) ?_
  refine .blank 1 _ _ (by decide) (by decide) ?_
  exact .bad 2 2 (by decide) (by decide) (by decide) rfl

/-- The variables that the lexer reads. -/
structure Vars (w : World) : Prop where
  handle : Handle w
  max : ∃ m, w.cell? ⟨1, 0, none⟩ = some (.int .i64 m)
theorem Vars.below {w w' : World} (h : Vars w) (hb : Below w.heap.size w w') : Vars w' := by
  obtain ⟨m, hm⟩ := h.max
  exact ⟨h.handle.below hb h.handle.pos, m, (hb.cell (p := ⟨1, 0, none⟩) (World.block_lt_of_cell? w _ hm)).trans hm⟩
theorem Vars.alloc {w : World} (h : Vars w) (o : Obj) : Vars (w.alloc o) := h.below ((Below.refl _ _).alloc (Nat.le_refl _) o)

/-- Lines of a source that lies in the memory. -/
theorem lines_at (s : ByteArray) (b o c : Nat) (all : List (List Piece)) (err : Option (Nat × Nat × Int)) (w : World) (hv : Vars w) (hs : s.size ≤ 65536) (hc : s.size ≤ c) (hcm : c ≤ maxLen) (hB : Bytes w b o s) (h : LinesR 0 (cut s.data.toList) all err) :
    Calls Tryd.prog 12 #[.slice (some ⟨b, o, none⟩) s.size c] w (ILines w all err) := by
  obtain ⟨m, hm⟩ := hv.max
  exact ilines_is s b o c m all err w hv.handle hm hs hc hcm hB h

/-- A source: none, or bytes that lie in the memory. -/
def SrcV (W : World) (v : Value) (s : ByteArray) : Prop := (v = .slice none 0 0 ∧ s = ByteArray.empty) ∨ ∃ (b o c : Nat), v = .slice (some ⟨b, o, none⟩) s.size c ∧ s.size ≤ c ∧ c ≤ maxLen ∧ Bytes W b o s
theorem SrcV.below {w w' : World} {v : Value} {s : ByteArray} (h : SrcV w v s) (hb : Below w.heap.size w w') : SrcV w' v s :=
  h.imp id fun ⟨b, o, c, h1, h2, h3, h4⟩ => ⟨b, o, c, h1, h2, h3, h4.below hb⟩
theorem lines_src (s : ByteArray) (v : Value) (all : List (List Piece)) (err : Option (Nat × Nat × Int)) (w : World) (hv : Vars w) (hs : s.size ≤ 65536) (h : SrcV w v s) (hr : LinesR 0 (cut s.data.toList) all err) :
    Calls Tryd.prog 12 #[v] w (ILines w all err) := by
  rcases h with ⟨rfl, rfl⟩ | ⟨b, o, c, rfl, h2, h3, h4⟩
  · obtain ⟨rfl, rfl⟩ := src_nil hr
    exact ilines_none w
  · exact lines_at s b o c all err w hv hs h2 h3 h4 hr

/-- Lines of a string's bytes. -/
theorem lines_str (s : ByteArray) (n : Nat) (hn : s.size = n) (fz : Nat × Nat) (all : List (List Piece)) (err : Option (Nat × Nat × Int)) (W : World) (hv : Vars W) (hs : n ≤ 65536) (h : LinesR 0 (cut s.data.toList) all err) :
    Calls Tryd.prog 12 #[.slice (some ⟨W.heap.size, 0, none⟩) n (grownCap W n 0 5)] ((W.alloc (.cells (bytesRow s (grownCap W n 0 5)) 5 fz)).drew) (ILines ((W.alloc (.cells (bytesRow s (grownCap W n 0 5)) 5 fz)).drew) all err) := by
  subst hn
  refine lines_at s W.heap.size 0 _ all err _ (hv.below ((Below.refl _ _).alloc (Nat.le_refl _) _).drew) hs (grownCap_ge W s.size 0 _) (grownCap_le_maxLen W s.size 0 _ (by unfold maxLen; omega)) ⟨by simp, fun j hj => ?_⟩ h
  show (W.alloc (.cells (bytesRow s (grownCap W s.size 0 5)) 5 fz)).cell? ⟨W.heap.size, 0 + j, none⟩ = _
  rw [Nat.zero_add, cell_of_row _ W.heap.size j _ 5 fz (heap_alloc_new W _), bytesRow_at s _ j hj]
  rfl

theorem lit_mark (w : World) (s : ByteArray) (cs : Array Value) (h : cs.toList = s.data.toList.map (fun c => Value.int .u8 (c.toNat : Int))) : Bytes (w.alloc (.cells cs 5 (cs.size, cs.size + 1))) w.heap.size 0 s := bytes_lit w s cs 5 _ _ rfl h

set_option maxRecDepth 100000 in
set_option maxHeartbeats 4000000 in
theorem awake_any (w : World) (hv : Vars w) : Calls Tryd.prog 11 #[] w fun e w' => e = .returned (.bool true) ∧ Below w.heap.size w w' := by
  have hconst := fun (w : World) (C : Array Value) (n c : Nat) => Lib.run_convert_bytes_const (P := Tryd.prog) w 22 5 C n c Tryd.underlying22 Tryd.underlying5
  have HV := Lib.hid hv
  have HA := Lib.hid (lines_at srcA w.heap.size 0 15 [lineA] none _ (hv.alloc _) (by decide) (by decide) (by decide) (lit_mark w srcA #[.int .u8 108, .int .u8 105, .int .u8 32, .int .u8 97, .int .u8 48, .int .u8 44, .int .u8 32, .int .u8 48, .int .u8 120, .int .u8 49, .int .u8 70, .int .u8 32, .int .u8 35, .int .u8 32, .int .u8 120] rfl) readA)
  have HBA : Hid (∀ o, Below w.heap.size w (w.alloc o)) := Lib.hid (fun o => (Below.refl _ _).alloc (Nat.le_refl _) o)
  clear hv
  go_enter Tryd.func11, Tryd.ntmps11
  go_wp2_with fail
  refine HA.out.mono ?_
  rintro e w1 ⟨⟨v, us, rfl, hown, hlines⟩, hb1⟩
  obtain ⟨g, cp, rfl, hcp, hg, hr⟩ := lines_form hown (by decide)
  obtain ⟨gi, ci, hL⟩ := line_cells hlines hr (i := 0) (ps := lineA) rfl (by decide)
  have HB1 : Hid (Below w.heap.size w w1) := Lib.hid ((HBA.out _).trans (hb1.mono (by simp)))
  have HL := Lib.hid hL
  have HB := Lib.hid (lines_at srcB w1.heap.size 0 4 [[]] (some (1, 2, 2)) _ ((HV.out.below HB1.out).alloc _) (by decide) (by decide) (by decide) (lit_mark w1 srcB #[.int .u8 10, .int .u8 32, .int .u8 32, .int .u8 36] rfl) readB)
  have hg1 : g < w1.heap.size := World.block_lt_of_cell? w1 ⟨g, 0, none⟩ hL.row
  clear hown hlines hr hb1 hL HA
  go_wp2_with fail
  refine HB.out.mono ?_
  rintro e w2 ⟨⟨g2, rfl, hg2, hblk⟩, hb2⟩
  have hb3 : Below w1.heap.size w1 w2 := (((Below.refl _ _).alloc (Nat.le_refl _) _).trans (hb2.mono (by simp)))
  have hL2 := HL.out.below hb3
  have HFT := Lib.hid (fault_err g2 2 3 2 w2 ((HV.out.below HB1.out).below hb3).handle (by decide) (by decide) hblk)
  have HB3 : Hid (Below w.heap.size w w2) := Lib.hid (HB1.out.trans (hb3.mono HB1.out.size))
  have r0 : w2.cell? ⟨g, 0, none⟩ = some (.slice (some ⟨gi, 0, none⟩) 4 ci) := hL2.row
  have c0 : w2.cell? ⟨gi, 0, none⟩ = some (.int .i64 1) := hL2.cell 0 _ rfl
  have c1 : w2.cell? ⟨gi, 1, none⟩ = some (.int .i64 1) := hL2.cell 1 _ rfl
  have c2 : w2.cell? ⟨gi, 2, none⟩ = some (.int .i64 1) := hL2.cell 2 _ rfl
  have c3 : w2.cell? ⟨gi, 3, none⟩ = some (.string ⟨#[108, 105]⟩) := hL2.cell 3 _ rfl
  have c4 : w2.cell? ⟨gi, 4, none⟩ = some (.int .u32 0) := hL2.cell 4 _ rfl
  have c5 : w2.cell? ⟨gi, 5, none⟩ = some (.int .i64 0) := hL2.cell 5 _ rfl
  have d0 : w2.cell? ⟨gi, 18, none⟩ = some (.int .i64 5) := hL2.cell 18 _ rfl
  have d1 : w2.cell? ⟨gi, 19, none⟩ = some (.int .i64 1) := hL2.cell 19 _ rfl
  have d2 : w2.cell? ⟨gi, 20, none⟩ = some (.int .i64 8) := hL2.cell 20 _ rfl
  have d3 : w2.cell? ⟨gi, 21, none⟩ = some (.string ⟨#[]⟩) := hL2.cell 21 _ rfl
  have d4 : w2.cell? ⟨gi, 22, none⟩ = some (.int .u32 31) := hL2.cell 22 _ rfl
  have d5 : w2.cell? ⟨gi, 23, none⟩ = some (.int .i64 0) := hL2.cell 23 _ rfl
  have hci : 4 ≤ ci := hL2.cap
  have hci2 : (4 : Int) ≤ ci := by omega
  clear hb2 hb3 hblk hL2 HB HL
  have heq := eql_toks
  have hef := fun W => eql_faults 2 3 2 W
  go_wp2_with fail
  refine HFT.out.mono ?_
  rintro e w3 ⟨rfl, hb3⟩
  go_wp2_with fail
  go_ret
  exact ⟨rfl, HB3.out.trans (hb3.mono HB3.out.size)⟩
end Go.Proofs.YtbhfblogjlpnlaaDoor
