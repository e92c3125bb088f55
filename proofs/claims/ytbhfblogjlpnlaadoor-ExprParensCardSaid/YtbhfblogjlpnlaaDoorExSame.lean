/-
  The contracts of the reference's Tokens and Nodes, at the same tokens and nodes: true; of the law's own Fault, at an error and the answer that tells it. Conditions: they lie in the memory; neither is long.
-/
import Derived.Test.YtbhfblogjlpnlaaDoorExAwake
import Derived.Laws.StructEq
import Derived.ChangeKeysEq
import Derived.RegionTactic
import Derived.BigRegion
namespace Go.Proofs.YtbhfblogjlpnlaaDoor
open Go.RowKit

theorem neq_tks (k l c n s : Int) (t : ByteArray) (w : World) : (binOp .neq 39 (.agg #[.int .i64 k, .int .i64 l, .int .i64 c, .string t, .int .u32 n, .int .i64 s]) (.agg #[.int .i64 k, .int .i64 l, .int .i64 c, .string t, .int .u32 n, .int .i64 s])).run Tryd.prog w = .ok (.bool false) w := by
  have h1 : Tryd.prog.underlying 39 = some (.struct (Tryd.prog.fieldsOf 39)) := by kernel_rfl
  have h2 : Tryd.prog.stoodInHeld 39 = false := by kernel_rfl
  have h3 : (Tryd.prog.fieldsOf 39).toList = [⟨"Kind", 3, 0, false, "", "", 0⟩, ⟨"Line", 3, 1, false, "", "", 8⟩, ⟨"Col", 3, 2, false, "", "", 16⟩, ⟨"Text", 9, 3, false, "", "", 24⟩, ⟨"Num", 37, 4, false, "", "", 40⟩, ⟨"Scope", 3, 5, false, "", "", 48⟩] := by kernel_rfl
  have hp : Tryd.prog.plainKey 3 = true := by kernel_rfl
  have hq : Tryd.prog.plainKey 9 = true := by kernel_rfl
  have hu : Tryd.prog.plainKey 37 = true := by kernel_rfl
  have p0 := fun W => run_part_plain (P := Tryd.prog) (e := 3) hp (xs := #[.int .i64 k, .int .i64 l, .int .i64 c, .string t, .int .u32 n, .int .i64 s]) (off := 0) (v := .int .i64 k) (w := W) rfl
  have p1 := fun W => run_part_plain (P := Tryd.prog) (e := 3) hp (xs := #[.int .i64 k, .int .i64 l, .int .i64 c, .string t, .int .u32 n, .int .i64 s]) (off := 1) (v := .int .i64 l) (w := W) rfl
  have p2 := fun W => run_part_plain (P := Tryd.prog) (e := 3) hp (xs := #[.int .i64 k, .int .i64 l, .int .i64 c, .string t, .int .u32 n, .int .i64 s]) (off := 2) (v := .int .i64 c) (w := W) rfl
  have p3 := fun W => run_part_plain (P := Tryd.prog) (e := 9) hq (xs := #[.int .i64 k, .int .i64 l, .int .i64 c, .string t, .int .u32 n, .int .i64 s]) (off := 3) (v := .string t) (w := W) rfl
  have p4 := fun W => run_part_plain (P := Tryd.prog) (e := 37) hu (xs := #[.int .i64 k, .int .i64 l, .int .i64 c, .string t, .int .u32 n, .int .i64 s]) (off := 4) (v := .int .u32 n) (w := W) rfl
  have p5 := fun W => run_part_plain (P := Tryd.prog) (e := 3) hp (xs := #[.int .i64 k, .int .i64 l, .int .i64 c, .string t, .int .u32 n, .int .i64 s]) (off := 5) (v := .int .i64 s) (w := W) rfl
  rw [run_neq_struct, run_equalIn_struct _ _ _ _ _ h1 h2, h3]
  simp [Op.eqFields, Result.andThen, p0, p1, p2, p3, p4, p5, run_equalIn_int _ _ _ .i64 .i64 _ _ Tryd.underlying3, run_equalIn_int _ _ _ .u32 .u32 _ _ Tryd.underlying37, run_equalIn_string _ _ _ _ _ Tryd.underlying9]

set_option maxRecDepth 100000 in
set_option maxHeartbeats 4000000 in
theorem tokens_same (ts : List Tk6) (v1 v2 : Value) (w : World) (hl : ts.length ≤ 1000000) (h1 : Toks w v1 ts) (h2 : Toks w v2 ts) :
    Calls Tryd.prog 20 #[v1, v2] w fun e w' => e = .returned (.bool true) ∧ Below w.heap.size w w' := by
  obtain ⟨A1, c1, rfl, hc1, _, hr1⟩ := h1.form
  obtain ⟨A2, c2, rfl, hc2, _, hr2⟩ := h2.form
  have HR1 := Lib.hid hr1
  have HR2 := Lib.hid hr2
  have heq := neq_tks
  clear h1 h2 hr1 hr2
  go_enter Tryd.func20, Tryd.ntmps20
  go_wp2_with fail
  go_loopw [5] (fun i wr => ∃ k : Nat, k ≤ ts.length ∧ i = .int .i64 k ∧ Hid (Below w.heap.size w wr)) (fun i _ => ts.length - (intOf i).toNat)
  case atStart => exact ⟨0, Nat.zero_le _, rfl, Lib.hid (Below.refl _ _)⟩
  case round =>
    obtain ⟨k, hk, rfl, HX⟩ := hrel
    by_cases hlt : k < ts.length
    · have hki : (k : Int) < ts.length := by omega
      have hkc1 : (k : Int) < c1 := by omega
      have hkc2 : (k : Int) < c2 := by omega
      obtain ⟨t, ht⟩ : ∃ t, ts[k]? = some t := ⟨_, List.getElem?_eq_getElem hlt⟩
      obtain ⟨b1, o1, rfl, hs1⟩ := HR1.out k t ht
      obtain ⟨b2, o2, rfl, hs2⟩ := HR2.out k t ht
      obtain ⟨e0, e1, e2, e3, e4, e5⟩ := hs1 wr HX.out
      obtain ⟨f0, f1, f2, f3, f4, f5⟩ := hs2 wr HX.out
      clear hs1 hs2 ht
      go_wp2_with fail
      go_quiet (fail)
      go_wp2_with fail
      go_roundw
      case rel => exact ⟨k + 1, by omega, by go_num, Lib.hid (bdrew HX.out)⟩
      case measure => simp [intOf]; omega
    · obtain rfl : k = ts.length := by omega
      go_wp2_with fail
      go_ret
      exact ⟨rfl, HX.out⟩

theorem neq_nds (k l c n : Int) (t : ByteArray) (w : World) : (binOp .neq 54 (.agg #[.int .i64 k, .int .i64 l, .int .i64 c, .int .u32 n, .string t]) (.agg #[.int .i64 k, .int .i64 l, .int .i64 c, .int .u32 n, .string t])).run Tryd.prog w = .ok (.bool false) w := by
  have h1 : Tryd.prog.underlying 54 = some (.struct (Tryd.prog.fieldsOf 54)) := by kernel_rfl
  have h2 : Tryd.prog.stoodInHeld 54 = false := by kernel_rfl
  have h3 : (Tryd.prog.fieldsOf 54).toList = [⟨"Kind", 3, 0, false, "", "", 0⟩, ⟨"Line", 3, 1, false, "", "", 8⟩, ⟨"Col", 3, 2, false, "", "", 16⟩, ⟨"Num", 37, 3, false, "", "", 24⟩, ⟨"Name", 9, 4, false, "", "", 32⟩] := by kernel_rfl
  have hp : Tryd.prog.plainKey 3 = true := by kernel_rfl
  have hq : Tryd.prog.plainKey 9 = true := by kernel_rfl
  have hu : Tryd.prog.plainKey 37 = true := by kernel_rfl
  have p0 := fun W => run_part_plain (P := Tryd.prog) (e := 3) hp (xs := #[.int .i64 k, .int .i64 l, .int .i64 c, .int .u32 n, .string t]) (off := 0) (v := .int .i64 k) (w := W) rfl
  have p1 := fun W => run_part_plain (P := Tryd.prog) (e := 3) hp (xs := #[.int .i64 k, .int .i64 l, .int .i64 c, .int .u32 n, .string t]) (off := 1) (v := .int .i64 l) (w := W) rfl
  have p2 := fun W => run_part_plain (P := Tryd.prog) (e := 3) hp (xs := #[.int .i64 k, .int .i64 l, .int .i64 c, .int .u32 n, .string t]) (off := 2) (v := .int .i64 c) (w := W) rfl
  have p3 := fun W => run_part_plain (P := Tryd.prog) (e := 37) hu (xs := #[.int .i64 k, .int .i64 l, .int .i64 c, .int .u32 n, .string t]) (off := 3) (v := .int .u32 n) (w := W) rfl
  have p4 := fun W => run_part_plain (P := Tryd.prog) (e := 9) hq (xs := #[.int .i64 k, .int .i64 l, .int .i64 c, .int .u32 n, .string t]) (off := 4) (v := .string t) (w := W) rfl
  rw [run_neq_struct, run_equalIn_struct _ _ _ _ _ h1 h2, h3]
  simp [Op.eqFields, Result.andThen, p0, p1, p2, p3, p4, run_equalIn_int _ _ _ .i64 .i64 _ _ Tryd.underlying3, run_equalIn_int _ _ _ .u32 .u32 _ _ Tryd.underlying37, run_equalIn_string _ _ _ _ _ Tryd.underlying9]

/-- A slice of nodes. -/
def Nds (w : World) (v : Value) (ns : List Nd) : Prop := (∃ (A : Option Addr) (c : Nat), v = .slice A 0 c ∧ ns = []) ∨ ∃ (b c : Nat), v = .slice (some ⟨b, 0, none⟩) ns.length c ∧ ns.length ≤ c ∧ b < w.heap.size ∧ ∀ (i : Nat) (n : Nd), ns[i]? = some n → ∀ (j : Nat) (u : Value), n.cells[j]? = some u → w.cell? ⟨b, i * 5 + j, none⟩ = some u
theorem nds_of_own {w : World} {base : Nat} {v : Value} {ns : List Nd} (h : w.ownsRow base 54 5 v ns.length (ndCells ns)) : Nds w v ns := by
  rcases Nat.eq_zero_or_pos ns.length with h0 | h0
  · obtain ⟨A, c, rfl⟩ := own_shape h
    exact .inl ⟨A, c, by rw [h0], List.eq_nil_of_length_eq_zero h0⟩
  · obtain ⟨g, c, rfl, hc, _, hg, hcell⟩ := nodes_of_own h h0
    exact .inr ⟨g, c, rfl, hc, hg, hcell⟩
theorem Nds.below {w w' : World} {v : Value} {ns : List Nd} (h : Nds w v ns) (hb : Below w.heap.size w w') : Nds w' v ns :=
  h.imp id fun ⟨b, c, h1, h2, h4, h5⟩ => ⟨b, c, h1, h2, Nat.lt_of_lt_of_le h4 hb.size, fun i t hi j u hj => (hb.cell (p := ⟨b, i * 5 + j, none⟩) h4).trans (h5 i t hi j u hj)⟩
theorem Nds.form {w : World} {v : Value} {ns : List Nd} (h : Nds w v ns) : ∃ A c, v = .slice A ns.length c ∧ ns.length ≤ c ∧ ∀ (i : Nat) (n : Nd), ns[i]? = some n → ∃ b, A = some ⟨b, 0, none⟩ ∧ ∀ W, Below w.heap.size w W → W.cell? ⟨b, i * 5, none⟩ = some (.int .i64 n.kind) ∧ W.cell? ⟨b, i * 5 + 1, none⟩ = some (.int .i64 n.line) ∧ W.cell? ⟨b, i * 5 + 2, none⟩ = some (.int .i64 n.col) ∧ W.cell? ⟨b, i * 5 + 3, none⟩ = some (.int .u32 n.num) ∧ W.cell? ⟨b, i * 5 + 4, none⟩ = some (.string n.name) := by
  rcases h with ⟨A, c, rfl, rfl⟩ | ⟨b, c, rfl, h2, h4, h5⟩
  · exact ⟨A, c, rfl, Nat.zero_le _, fun i n h => by simp at h⟩
  · refine ⟨_, c, rfl, h2, fun i n hi => ⟨b, rfl, fun W hW => ?_⟩⟩
    have hc : ∀ (j : Nat) (u : Value), n.cells[j]? = some u → W.cell? ⟨b, i * 5 + j, none⟩ = some u := fun j u hj => (hW.cell (p := ⟨b, i * 5 + j, none⟩) h4).trans (h5 i n hi j u hj)
    exact ⟨hc 0 _ rfl, hc 1 _ rfl, hc 2 _ rfl, hc 3 _ rfl, hc 4 _ rfl⟩

set_option maxRecDepth 100000 in
set_option maxHeartbeats 4000000 in
theorem nodes_same (ns : List Nd) (v1 v2 : Value) (w : World) (hl : ns.length ≤ 1000000) (h1 : Nds w v1 ns) (h2 : Nds w v2 ns) :
    Calls Tryd.prog 19 #[v1, v2] w fun e w' => e = .returned (.bool true) ∧ Below w.heap.size w w' := by
  obtain ⟨A1, c1, rfl, hc1, hr1⟩ := h1.form
  obtain ⟨A2, c2, rfl, hc2, hr2⟩ := h2.form
  have HR1 := Lib.hid hr1
  have HR2 := Lib.hid hr2
  have heq := neq_nds
  clear h1 h2 hr1 hr2
  go_enter Tryd.func19, Tryd.ntmps19
  go_wp2_with fail
  go_loopw [5] (fun i wr => ∃ k : Nat, k ≤ ns.length ∧ i = .int .i64 k ∧ Hid (Below w.heap.size w wr)) (fun i _ => ns.length - (intOf i).toNat)
  case atStart => exact ⟨0, Nat.zero_le _, rfl, Lib.hid (Below.refl _ _)⟩
  case round =>
    obtain ⟨k, hk, rfl, HX⟩ := hrel
    by_cases hlt : k < ns.length
    · have hki : (k : Int) < ns.length := by omega
      have hkc1 : (k : Int) < c1 := by omega
      have hkc2 : (k : Int) < c2 := by omega
      obtain ⟨t, ht⟩ : ∃ t, ns[k]? = some t := ⟨_, List.getElem?_eq_getElem hlt⟩
      obtain ⟨b1, rfl, hs1⟩ := HR1.out k t ht
      obtain ⟨b2, rfl, hs2⟩ := HR2.out k t ht
      obtain ⟨e0, e1, e2, e3, e4⟩ := hs1 wr HX.out
      obtain ⟨f0, f1, f2, f3, f4⟩ := hs2 wr HX.out
      clear hs1 hs2 ht
      go_wp2_with fail
      go_quiet (fail)
      go_wp2_with fail
      go_roundw
      case rel => exact ⟨k + 1, by omega, by go_num, Lib.hid (bdrew HX.out)⟩
      case measure => simp [intOf]; omega
    · obtain rfl : k = ns.length := by omega
      go_wp2_with fail
      go_ret
      exact ⟨rfl, HX.out⟩

set_option maxRecDepth 100000 in
set_option maxHeartbeats 4000000 in
theorem efault_is (v : Value) (vn vr : Value) (L C c : Int) (w : World) (HF : Hid (∀ W, Below w.heap.size w W → Calls Tryd.prog 15 #[v] W fun e w' => e = .returned (.agg #[.int .i64 L, .int .i64 C, .int .i64 c]) ∧ Below W.heap.size W w')) :
    Calls Tryd.prog 21 #[v, .agg #[vn, vr, .int .i64 L, .int .i64 C, .int .i64 c]] w fun e w' => e = .returned (.bool true) ∧ Below w.heap.size w w' := by
  have hef := fun W => eql_faults L C c W
  have HBA : Hid (∀ o, Below w.heap.size w (w.alloc o)) := Lib.hid (fun o => (Below.refl _ _).alloc (Nat.le_refl _) o)
  have kt := Blk.new w 47 #[vn, vr, .int .i64 L, .int .i64 C, .int .i64 c]
  go_enter Tryd.func21, Tryd.ntmps21
  go_wp2_with fail
  have HB := Lib.hid (HBA.out (.cells #[vn, vr, .int .i64 L, .int .i64 C, .int .i64 c] 47))
  clear HBA
  generalize (w.alloc (.cells #[vn, vr, .int .i64 L, .int .i64 C, .int .i64 c] 47)) = wA at kt HB ⊢
  have HB2 := Lib.hid HB.out
  generalize hgg : w.heap.size = g at kt ⊢
  have s2 : wA.cell? ⟨g, 2, none⟩ = some (.int .i64 L) := kt.cell 2
  have s3 : wA.cell? ⟨g, 3, none⟩ = some (.int .i64 C) := kt.cell 3
  have s4 : wA.cell? ⟨g, 4, none⟩ = some (.int .i64 c) := kt.cell 4
  have KT := Lib.hid kt
  have HI := Lib.hid (fun W (hW : Below wA.heap.size wA W) => (HF.out W (HB2.out.trans (hW.mono HB2.out.size))).mono (fun e w' (h : e = .returned (.agg #[.int .i64 L, .int .i64 C, .int .i64 c]) ∧ Below W.heap.size W w') => (⟨h.1, hW.trans (h.2.mono hW.size)⟩ : e = .returned (.agg #[.int .i64 L, .int .i64 C, .int .i64 c]) ∧ Below wA.heap.size wA w')))
  clear kt
  go_region_held3 (fun W => W.cell? ⟨g, 2, none⟩ = some (.int .i64 L) ∧ W.cell? ⟨g, 3, none⟩ = some (.int .i64 C) ∧ W.cell? ⟨g, 4, none⟩ = some (.int .i64 c) ∧ Below wA.heap.size wA W)
    (first | exact ⟨s2, s3, s4, Below.refl _ _⟩ | exact ⟨s2, s3, s4, (Below.refl _ _).drew⟩ | (go_split_ands; exact ⟨by assumption, by assumption, by assumption, by assumption⟩) | go_keep)
    (first | (go_at_call 15; go_split_ands; refine (HI.out _ (by assumption)).mono ?_; rintro e w3 ⟨rfl, hb3⟩; have r2 : w3.cell? ⟨g, 2, none⟩ = some (.int .i64 L) := (KT.out.below hb3 KT.out.lt).cell 2; have r3 : w3.cell? ⟨g, 3, none⟩ = some (.int .i64 C) := (KT.out.below hb3 KT.out.lt).cell 3; have r4 : w3.cell? ⟨g, 4, none⟩ = some (.int .i64 c) := (KT.out.below hb3 KT.out.lt).cell 4))
  go_wp2_with fail
  go_ret
  exact ⟨rfl, HB2.out.trans (hb3.mono HB2.out.size)⟩
end Go.Proofs.YtbhfblogjlpnlaaDoor
