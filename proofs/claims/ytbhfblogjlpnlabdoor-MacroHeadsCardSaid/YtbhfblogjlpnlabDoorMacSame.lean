/-
  The contracts of the reference's Same, at rows of the same tokens, and Tokens, at the same tokens: true. Conditions: they lie in the memory; neither is long.
-/
import Derived.Test.YtbhfblogjlpnlabDoorMacShape
import Derived.Laws.StructEq
import Derived.ChangeKeysEq
import Derived.RegionTactic
import Derived.BigRegion
namespace Go.Proofs.YtbhfblogjlpnlabDoor
open Go.RowKit

theorem neq_tks (k l c n s : Int) (t : ByteArray) (w : World) : (binOp .neq 56 (.agg #[.int .i64 k, .int .i64 l, .int .i64 c, .string t, .int .u32 n, .int .i64 s]) (.agg #[.int .i64 k, .int .i64 l, .int .i64 c, .string t, .int .u32 n, .int .i64 s])).run Tryd.prog w = .ok (.bool false) w := by
  have h1 : Tryd.prog.underlying 56 = some (.struct (Tryd.prog.fieldsOf 56)) := by kernel_rfl
  have h2 : Tryd.prog.stoodInHeld 56 = false := by kernel_rfl
  have h3 : (Tryd.prog.fieldsOf 56).toList = [⟨"Kind", 3, 0, false, "", "", 0⟩, ⟨"Line", 3, 1, false, "", "", 8⟩, ⟨"Col", 3, 2, false, "", "", 16⟩, ⟨"Text", 9, 3, false, "", "", 24⟩, ⟨"Num", 35, 4, false, "", "", 40⟩, ⟨"Scope", 3, 5, false, "", "", 48⟩] := by kernel_rfl
  have hp : Tryd.prog.plainKey 3 = true := by kernel_rfl
  have hq : Tryd.prog.plainKey 9 = true := by kernel_rfl
  have hu : Tryd.prog.plainKey 35 = true := by kernel_rfl
  have p0 := fun W => run_part_plain (P := Tryd.prog) (e := 3) hp (xs := #[.int .i64 k, .int .i64 l, .int .i64 c, .string t, .int .u32 n, .int .i64 s]) (off := 0) (v := .int .i64 k) (w := W) rfl
  have p1 := fun W => run_part_plain (P := Tryd.prog) (e := 3) hp (xs := #[.int .i64 k, .int .i64 l, .int .i64 c, .string t, .int .u32 n, .int .i64 s]) (off := 1) (v := .int .i64 l) (w := W) rfl
  have p2 := fun W => run_part_plain (P := Tryd.prog) (e := 3) hp (xs := #[.int .i64 k, .int .i64 l, .int .i64 c, .string t, .int .u32 n, .int .i64 s]) (off := 2) (v := .int .i64 c) (w := W) rfl
  have p3 := fun W => run_part_plain (P := Tryd.prog) (e := 9) hq (xs := #[.int .i64 k, .int .i64 l, .int .i64 c, .string t, .int .u32 n, .int .i64 s]) (off := 3) (v := .string t) (w := W) rfl
  have p4 := fun W => run_part_plain (P := Tryd.prog) (e := 35) hu (xs := #[.int .i64 k, .int .i64 l, .int .i64 c, .string t, .int .u32 n, .int .i64 s]) (off := 4) (v := .int .u32 n) (w := W) rfl
  have p5 := fun W => run_part_plain (P := Tryd.prog) (e := 3) hp (xs := #[.int .i64 k, .int .i64 l, .int .i64 c, .string t, .int .u32 n, .int .i64 s]) (off := 5) (v := .int .i64 s) (w := W) rfl
  rw [run_neq_struct, run_equalIn_struct _ _ _ _ _ h1 h2, h3]
  simp [Op.eqFields, Result.andThen, p0, p1, p2, p3, p4, p5, run_equalIn_int _ _ _ .i64 .i64 _ _ Tryd.underlying3, run_equalIn_int _ _ _ .u32 .u32 _ _ Tryd.underlying35, run_equalIn_string _ _ _ _ _ Tryd.underlying9]

set_option maxRecDepth 100000 in
set_option maxHeartbeats 4000000 in
theorem tokens_same (ts : List Tk6) (v1 v2 : Value) (w : World) (hl : ts.length ≤ 1000000) (h1 : Toks w v1 ts) (h2 : Toks w v2 ts) :
    Calls Tryd.prog 29 #[v1, v2] w fun e w' => e = .returned (.bool true) ∧ Below w.heap.size w w' := by
  obtain ⟨A1, c1, rfl, hc1, _, hr1⟩ := h1.form
  obtain ⟨A2, c2, rfl, hc2, _, hr2⟩ := h2.form
  have HR1 := Lib.hid hr1
  have HR2 := Lib.hid hr2
  have heq := neq_tks
  clear h1 h2 hr1 hr2
  go_enter Tryd.func29, Tryd.ntmps29
  go_wp2_with fail
  go_loopw [5] (fun i wr => ∃ k : Nat, k ≤ ts.length ∧ i = .int .i64 k ∧ Hid (Below w.heap.size w wr)) (fun i _ => ts.length - (intOf i).toNat)
  case atStart => exact ⟨0, Nat.zero_le _, rfl, Lib.hid (Below.refl _ _)⟩
  case round =>
    obtain ⟨k, hk, rfl, HX⟩ := hrel
    by_cases hlt : k < ts.length
    · have hki : (k : Int) < ts.length := by omega
      have hkc1 : (k : Int) < c1 := by omega
      have hkc2 : (k : Int) < c2 := by omega
      obtain ⟨t, ht⟩ : ∃ t, ts[k]? = some t := ⟨_, List.getElem?_eq_getElem hlt⟩
      obtain ⟨b1, o1, rfl, hs1⟩ := HR1.out k t ht
      obtain ⟨b2, o2, rfl, hs2⟩ := HR2.out k t ht
      obtain ⟨e0, e1, e2, e3, e4, e5⟩ := hs1 wr HX.out
      obtain ⟨f0, f1, f2, f3, f4, f5⟩ := hs2 wr HX.out
      clear hs1 hs2 ht
      go_wp2_with fail
      go_quiet (fail)
      go_wp2_with fail
      go_roundw
      case rel => exact ⟨k + 1, by omega, by go_num, Lib.hid (bdrew HX.out)⟩
      case measure => simp [intOf]; omega
    · obtain rfl : k = ts.length := by omega
      go_wp2_with fail
      go_ret
      exact ⟨rfl, HX.out⟩

set_option maxRecDepth 100000 in
set_option maxHeartbeats 4000000 in
theorem rows_same (pss : List (List Tk6)) (v1 v2 : Value) (w : World) (hl : pss.length ≤ 1000000) (hp : ∀ ps ∈ pss, ps.length ≤ 1000000) (h1 : TokRows w v1 pss) (h2 : TokRows w v2 pss) :
    Calls Tryd.prog 21 #[v1, v2] w fun e w' => e = .returned (.bool true) ∧ Below w.heap.size w w' := by
  obtain ⟨A1, c1, rfl, hc1, _, hr1⟩ := h1.form
  obtain ⟨A2, c2, rfl, hc2, _, hr2⟩ := h2.form
  have HR1 := Lib.hid hr1
  have HR2 := Lib.hid hr2
  have HP := Lib.hid hp
  have heq := neq_tks
  clear h1 h2 hr1 hr2 hp
  go_enter Tryd.func21, Tryd.ntmps21
  go_wp2_with fail
  go_loopw [5] (fun i wr => ∃ k : Nat, k ≤ pss.length ∧ i = .int .i64 k ∧ Hid (Below w.heap.size w wr)) (fun i _ => pss.length - (intOf i).toNat)
  case atStart => exact ⟨0, Nat.zero_le _, rfl, Lib.hid (Below.refl _ _)⟩
  case round =>
    obtain ⟨k, hk, rfl, HX⟩ := hrel
    by_cases hlt : k < pss.length
    · have hki : (k : Int) < pss.length := by omega
      have hkc1 : (k : Int) < c1 := by omega
      have hkc2 : (k : Int) < c2 := by omega
      obtain ⟨ps, hps⟩ : ∃ ps, pss[k]? = some ps := ⟨_, List.getElem?_eq_getElem hlt⟩
      have hpl := HP.out ps (List.mem_of_getElem? hps)
      obtain ⟨b1, o1, d1, rfl, ht1, hs1⟩ := HR1.out k ps hps
      obtain ⟨b2, o2, d2, rfl, ht2, hs2⟩ := HR2.out k ps hps
      obtain ⟨D1, x1, rfl, hx1, _, hq1⟩ := ht1.form
      obtain ⟨D2, x2, rfl, hx2, _, hq2⟩ := ht2.form
      have HS1 := Lib.hid hs1
      have HS2 := Lib.hid hs2
      have HQ1 := Lib.hid hq1
      have HQ2 := Lib.hid hq2
      have r1 := hs1 wr HX.out
      have r2 := hs2 wr HX.out
      clear hps ht1 ht2 hs1 hs2 hq1 hq2
      obtain ⟨wo, rfl⟩ : ∃ wo : World, wo = wr := ⟨_, rfl⟩
      go_wp2_with fail
      go_quiet (fail)
      go_wp2_with fail
      go_loopw [6] (fun j wx => ∃ m : Nat, m ≤ ps.length ∧ j = .int .i64 m ∧ Hid (Below w.heap.size w wx)) (fun j _ => ps.length - (intOf j).toNat)
      case atStart => exact ⟨0, Nat.zero_le _, rfl, Lib.hid (bdrew HX.out)⟩
      case round =>
        obtain ⟨m, hm, rfl, HX2⟩ := hrel
        clear r1 r2
        have r1 := HS1.out _ HX2.out
        have r2 := HS2.out _ HX2.out
        by_cases hmt : m < ps.length
        · have hmi : (m : Int) < ps.length := by omega
          have hmd1 : (m : Int) < x1 := by omega
          have hmd2 : (m : Int) < x2 := by omega
          obtain ⟨t, ht⟩ : ∃ t, ps[m]? = some t := ⟨_, List.getElem?_eq_getElem hmt⟩
          obtain ⟨a1, y1, rfl, hz1⟩ := HQ1.out m t ht
          obtain ⟨a2, y2, rfl, hz2⟩ := HQ2.out m t ht
          obtain ⟨e0, e1, e2, e3, e4, e5⟩ := hz1 _ (HX2.out)
          obtain ⟨f0, f1, f2, f3, f4, f5⟩ := hz2 _ (HX2.out)
          clear hz1 hz2 ht
          go_wp2_with fail
          go_quiet (fail)
          go_wp2_with fail
          go_roundw
          case rel => exact ⟨m + 1, by omega, by go_num, Lib.hid (bdrew HX2.out)⟩
          case measure => simp [intOf]; omega
        · obtain rfl : m = ps.length := by omega
          go_wp2_with fail
          go_roundw
          case rel => exact ⟨k + 1, by omega, by go_num, HX2⟩
          case measure => simp [intOf]; omega
    · obtain rfl : k = pss.length := by omega
      go_wp2_with fail
      go_ret
      exact ⟨rfl, HX.out⟩
end Go.Proofs.YtbhfblogjlpnlabDoor
