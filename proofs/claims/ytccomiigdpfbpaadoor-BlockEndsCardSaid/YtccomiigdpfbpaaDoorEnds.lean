/-
  The law BlockEnds, walked: it returns true. Conditions: the handle of the type error; the lines' cells, and their first tokens' cells, are there.
-/
import Derived.Test.YtccomiigdpfbpaaDoorRef6
import Derived.Laws.StructEq
import Derived.Deep.RegionHeld3
import Derived.Deep.DeepCutAuto
import Derived.ChangeKeysEq
namespace Go.Proofs.YtccomiigdpfbpaaDoor
open Go.RowKit

theorem eql_faults (L C c : Int) (w : World) : (binOp .eql 30 (.agg #[.int .i64 L, .int .i64 C, .int .i64 c]) (.agg #[.int .i64 L, .int .i64 C, .int .i64 c])).run Tryd.prog w = .ok (.bool true) w := by
  have h1 : Tryd.prog.underlying 30 = some (.struct (Tryd.prog.fieldsOf 30)) := by kernel_rfl
  have h2 : Tryd.prog.stoodInHeld 30 = false := by kernel_rfl
  have h3 : (Tryd.prog.fieldsOf 30).toList = [⟨"Line", 3, 0, false, "", "", 0⟩, ⟨"Col", 3, 1, false, "", "", 8⟩, ⟨"Code", 3, 2, false, "", "", 16⟩] := by kernel_rfl
  have hp : Tryd.prog.plainKey 3 = true := by kernel_rfl
  have p0 := fun W => run_part_plain (P := Tryd.prog) (e := 3) hp (xs := #[.int .i64 L, .int .i64 C, .int .i64 c]) (off := 0) (v := .int .i64 L) (w := W) rfl
  have p1 := fun W => run_part_plain (P := Tryd.prog) (e := 3) hp (xs := #[.int .i64 L, .int .i64 C, .int .i64 c]) (off := 1) (v := .int .i64 C) (w := W) rfl
  have p2 := fun W => run_part_plain (P := Tryd.prog) (e := 3) hp (xs := #[.int .i64 L, .int .i64 C, .int .i64 c]) (off := 2) (v := .int .i64 c) (w := W) rfl
  rw [run_eql_struct, run_equalIn_struct _ _ _ _ _ h1 h2, h3]
  simp [Op.eqFields, p0, p1, p2, run_equalIn_int _ _ _ .i64 .i64 _ _ Tryd.underlying3]

/-- What holds in every world behind the reference's answer: its cells, and what Fault answers. -/
structure Kept (w3 : World) (L C c : Int) (v : Value) (W : World) : Prop where
  below : Below (w3.heap.size + 1) (w3.alloc (.cells #[.int .i64 L, .int .i64 C, .int .i64 c] 30)) W
  call : ∀ W', Below W.heap.size W W' → Calls Tryd.prog 11 #[v] W' fun e w'' => e = .returned (.agg #[.int .i64 L, .int .i64 C, .int .i64 c]) ∧ Below W'.heap.size W' w''
theorem Kept.size {w3 : World} {L C c : Int} {v : Value} {W : World} (h : Kept w3 L C c v W) : w3.heap.size + 1 ≤ W.heap.size := by simpa using h.below.size
theorem Kept.next {w3 : World} {L C c : Int} {v : Value} {W W' : World} (h : Kept w3 L C c v W) (hb : Below W.heap.size W W') : Kept w3 L C c v W' :=
  ⟨h.below.trans (hb.mono h.size), fun W2 h2 => h.call W2 (hb.trans (h2.mono hb.size))⟩
theorem Kept.drew {w3 : World} {L C c : Int} {v : Value} {W : World} (h : Kept w3 L C c v W) : Kept w3 L C c v W.drew := h.next (Below.refl _ _).drew
theorem Kept.c0 {w3 : World} {L C c : Int} {v : Value} {W : World} (h : Kept w3 L C c v W) : W.cell? ⟨w3.heap.size, 0, none⟩ = some (.int .i64 L) := by
  have := h.below.cell (p := ⟨w3.heap.size, 0, none⟩) (by simp)
  simpa using this
theorem Kept.c1 {w3 : World} {L C c : Int} {v : Value} {W : World} (h : Kept w3 L C c v W) : W.cell? ⟨w3.heap.size, 1, none⟩ = some (.int .i64 C) := by
  have := h.below.cell (p := ⟨w3.heap.size, 1, none⟩) (by simp)
  simpa using this
theorem Kept.c2 {w3 : World} {L C c : Int} {v : Value} {W : World} (h : Kept w3 L C c v W) : W.cell? ⟨w3.heap.size, 2, none⟩ = some (.int .i64 c) := by
  have := h.below.cell (p := ⟨w3.heap.size, 2, none⟩) (by simp)
  simpa using this
theorem kept_call {w3 : World} {L C c : Int} {v : Value} {W : World} (h : Kept w3 L C c v W) :
    Calls Tryd.prog 11 #[v] W fun e w' => e = .returned (.agg #[.int .i64 L, .int .i64 C, .int .i64 c]) ∧ w'.cell? ⟨w3.heap.size, 0, none⟩ = some (.int .i64 L) ∧ w'.cell? ⟨w3.heap.size, 1, none⟩ = some (.int .i64 C) ∧ w'.cell? ⟨w3.heap.size, 2, none⟩ = some (.int .i64 c) ∧ Kept w3 L C c v w' :=
  (h.call W (Below.refl _ _)).mono fun _ _ ⟨he, hb⟩ => ⟨he, (h.next hb).c0, (h.next hb).c1, (h.next hb).c2, h.next hb⟩

set_option maxRecDepth 100000 in
set_option maxHeartbeats 8000000 in
theorem ends_any (F : Lns) (A : Option Addr) (n cap : Nat) (a : Int) (w : World) (hg : Handle w) (hm : EndMeet w (.slice A n cap) n (endSpec F n)) (hr : RefMeet w (.slice A n cap) n (endSpec F n)) :
    Calls Tryd.prog 3 #[.slice A n cap, .int .i64 a] w fun e w' => e = .returned (.bool true) ∧ Below w.heap.size w w' := by
  have haw := awake_any w hg
  have heq := eql_faults
  have HR := Lib.hid hr
  clear hr
  go_enter Tryd.func3, Tryd.ntmps3
  go_wp2_with fail
  refine haw.mono ?_
  rintro e w1 ⟨rfl, hb1⟩
  clear haw
  have hlt := hm.light w1 hb1
  go_wp2_with fail
  refine hlt.mono ?_
  rintro e w' ⟨r, rfl, hr, rfl⟩
  clear hlt
  cases r with
  | false =>
    clear hr
    go_wp2
    go_ret
    exact ⟨rfl, hb1⟩
  | true =>
    have hn := hr rfl
    clear hr
    have hE := hm.fin hn a w1 hb1 (hg.below hb1 hg.pos)
    have HB1 := Lib.hid hb1
    clear hb1
    go_wp2_with fail
    refine hE.mono ?_
    clear hE
    rintro e w2 h2
    cases hs : endSpec F n a with
    | bad L C =>
      rw [hs] at h2
      obtain ⟨bb, rfl, hbb, hblk, hb2⟩ := h2
      have HB2 : Hid (Below w.heap.size w w2) := HB1.out.trans (hb2.mono HB1.out.size)
      have hR := HR.out hn a w2 HB2.out
      rw [hs] at hR
      clear hs hb2
      go_wp2_with fail
      refine hR.mono ?_
      rintro e w3 ⟨rfl, hb3⟩
      have hblk3 := hblk.below hb3 hblk.lt
      have HB3 : Hid (Below w.heap.size w w3) := HB2.out.trans (hb3.mono HB2.out.size)
      have hk0 : Kept w3 L C 15 (.iface 55 (.pointer (some ⟨bb, 0, none⟩))) (w3.alloc (.cells #[.int .i64 L, .int .i64 C, .int .i64 15] 30)) :=
        ⟨(Below.refl _ _), fun W' hb => fault_err bb L C 15 W' (((hg.below HB3.out hg.pos).alloc _).below hb (by simp)) (by omega) (by omega) ((hblk3.alloc _).below hb (hblk3.alloc _).lt)⟩
      clear hR hb3 hblk3 hblk hbb
      go_wp2_with fail
      have HK0 := Lib.hid hk0
      clear hk0
      go_region_held3 (fun W => W.cell? ⟨w3.heap.size, 0, none⟩ = some (.int .i64 L) ∧ W.cell? ⟨w3.heap.size, 1, none⟩ = some (.int .i64 C) ∧ W.cell? ⟨w3.heap.size, 2, none⟩ = some (.int .i64 15) ∧ Kept w3 L C 15 (.iface 55 (.pointer (some ⟨bb, 0, none⟩))) W)
        (first | exact ⟨HK0.out.drew.c0, HK0.out.drew.c1, HK0.out.drew.c2, HK0.out.drew⟩ | (go_split_ands; exact ⟨by assumption, by assumption, by assumption, by assumption⟩) | (go_split_ands; refine ⟨by assumption, by assumption, by assumption, Kept.drew (by assumption)⟩) | go_keep)
        (first | (go_at_call 11; go_split_ands; refine (kept_call (by assumption)).mono ?_; rintro e w5 ⟨rfl, c0, c1, c2, hk5⟩))
      all_goals (try go_wp2)
      all_goals go_ret
      all_goals exact ⟨rfl, HB3.out.trans (((Below.refl _ _).alloc HB3.out.size _).trans (hk5.below.mono (Nat.le_succ_of_le HB3.out.size)))⟩
    | ok K o =>
      rw [hs] at h2
      obtain ⟨rfl, hb2⟩ := h2
      have HB2 : Hid (Below w.heap.size w w2) := HB1.out.trans (hb2.mono HB1.out.size)
      have hR := HR.out hn a w2 HB2.out
      rw [hs] at hR
      clear hs hb2
      go_wp2_with fail
      refine hR.mono ?_
      rintro e w3 ⟨rfl, hb3⟩
      have HB3 : Hid (Below w.heap.size w w3) := HB2.out.trans (hb3.mono HB2.out.size)
      have hk0 : Kept w3 0 0 0 .nilIface (w3.alloc (.cells #[.int .i64 0, .int .i64 0, .int .i64 0] 30)) := ⟨(Below.refl _ _), fun W' _ => fault_nil W'⟩
      clear hR hb3
      go_wp2_with fail
      have HK0 := Lib.hid hk0
      clear hk0
      go_region_held3 (fun W => W.cell? ⟨w3.heap.size, 0, none⟩ = some (.int .i64 0) ∧ W.cell? ⟨w3.heap.size, 1, none⟩ = some (.int .i64 0) ∧ W.cell? ⟨w3.heap.size, 2, none⟩ = some (.int .i64 0) ∧ Kept w3 0 0 0 (.nilIface) W)
        (first | exact ⟨HK0.out.drew.c0, HK0.out.drew.c1, HK0.out.drew.c2, HK0.out.drew⟩ | (go_split_ands; exact ⟨by assumption, by assumption, by assumption, by assumption⟩) | (go_split_ands; refine ⟨by assumption, by assumption, by assumption, Kept.drew (by assumption)⟩) | go_keep)
        (first | (go_at_call 11; go_split_ands; refine (kept_call (by assumption)).mono ?_; rintro e w5 ⟨rfl, c0, c1, c2, hk5⟩))
      all_goals (try go_wp2)
      all_goals go_ret
      all_goals exact ⟨rfl, HB3.out.trans (((Below.refl _ _).alloc HB3.out.size _).trans (hk5.below.mono (Nat.le_succ_of_le HB3.out.size)))⟩
theorem ends_law (A : Option Addr) (n cap : Nat) (a : Int) (w : World) (hg : Handle w) (h : 0 < n → ∃ B O F, A = some ⟨B, O, none⟩ ∧ Lns.In F w B O n) :
    Calls Tryd.prog 3 #[.slice A n cap, .int .i64 a] w fun e w' => e = .returned (.bool true) ∧ Below w.heap.size w w' := by
  obtain ⟨F, hm, hr⟩ := bothMeet_of (cap := cap) h
  exact ends_any F A n cap a w hg hm hr
end Go.Proofs.YtccomiigdpfbpaaDoor
