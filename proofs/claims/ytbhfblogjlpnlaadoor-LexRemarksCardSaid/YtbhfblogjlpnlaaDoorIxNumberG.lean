/-
  The contract of the lexer's number: the base and how many bytes tell it are variables. Conditions: the slice's bytes lie in the memory; it has a byte, and at most 65536.
-/
import Derived.Test.YtbhfblogjlpnlaaDoorIxNumber
import Derived.Deep.RegionHeld3
namespace Go.Proofs.YtbhfblogjlpnlaaDoor
open Go.RowKit

section
variable (s : ByteArray) (b o c : Nat) (w : World) (B a P V : Nat) (hs : s.size ≤ 65536) (h0 : 0 < s.size) (hc : s.size ≤ c) (HB : Hid (Bytes w b o s)) (hca : ¬ c = a) (hai : (a : Int) ≤ s.size)
  (HBO : Hid (∀ W, Below w.heap.size w W → Calls Tryd.prog 97 #[.slice (some ⟨b, o, none⟩) s.size c] W fun e w' => e = .returned (.tuple #[.int .u32 (B : Int), .int .i64 (a : Int)]) ∧ Below W.heap.size W w'))
  (HRUN : Hid (∀ W g, Below w.heap.size w W → W.cell? ⟨g, 0, none⟩ = some (.int .u32 (B : Int)) → Calls Tryd.prog 50 #[.slice (some ⟨b, o + a, none⟩) (s.size - a) (c - a), .func (.func 98) #[] #[.pointer (some ⟨g, 0, none⟩)]] W fun e w' => e = .returned (.int .i64 P) ∧ Drew W w'))
  (hpn : a + P ≤ s.size)
include hs h0 hc HB HBO HRUN hpn hca hai

set_option maxRecDepth 100000 in
set_option maxHeartbeats 2000000 in
omit HB in
theorem numG_zero {x : Int} {f : Bool} (HF : Hid (∀ W, Below w.heap.size w W → Calls Tryd.prog 100 #[.slice (some ⟨b, o + a, none⟩) (((a : Int) + (P : Int)).toNat - a) (c - a), .int .u32 (B : Int)] W fun e w' => e = .returned (.tuple #[.int .u32 x, .bool f]) ∧ w' = W)) (_hz1 : ((a : Int) + (P : Int) == a) = true) (_hz2 : ((P : Int) == 0) = true) : Calls Tryd.prog 79 #[.slice (some ⟨b, o, none⟩) s.size c] w (ITok w (.bad 3)) := by
  have h0i : (0 : Int) < s.size := by omega
  have hpi : ((a : Int) + P) ≤ s.size := by omega
  have hpc : a + P ≤ c := by omega
  have hpci : ((a : Int) + P) ≤ c := by omega
  have hc0 : ¬ c = 0 := by omega
  have hp0 : (0 : Int) ≤ (P : Int) := by omega
  have hP1 : P ≤ s.size := by omega
  have hP2 : (P : Int) ≤ s.size := by omega
  have hP3 : (P : Int) ≤ c := by omega
  have hlo : (a : Int) ≤ (a : Int) + P := by omega
  go_enter Tryd.func79, Tryd.ntmps79
  go_wp2_with fail
  refine (HBO.out _ ((Below.refl _ _).alloc (Nat.le_refl _) _)).mono ?_
  rintro e w1 ⟨rfl, hb1⟩
  rw [World.size_alloc] at hb1
  have HT := Lib.hid (tokAt hb1)
  have HW1 := Lib.hid (below_of_tok hb1)
  have hsz1 : w.heap.size < w1.heap.size := by have := hb1.size; simp at this; omega
  have hne1 : ¬ w.heap.size = w1.heap.size := by omega
  have hne2 : ¬ w1.heap.size = w.heap.size := by omega
  clear hb1
  go_wp2_with fail
  refine (HRUN.out _ _ (HW1.out.alloc HW1.out.size _) (by simp)).mono ?_
  rintro e w2 ⟨rfl, q, rfl⟩
  go_wp2_with fail
  have hcell : ((w1.alloc (.cells #[.int .u32 (B : Int)] 37)).drewN q).cell? ⟨w1.heap.size, 0, none⟩ = some (.int .u32 (B : Int)) := by simp
  have hbel := bdrew (HW1.out.alloc HW1.out.size (.cells #[.int .u32 (B : Int)] 37)) (n := q)
  go_region_held3 (fun W => W.cell? ⟨w1.heap.size, 0, none⟩ = some (.int .u32 (B : Int)) ∧ Below w.heap.size w W)
    (first | exact ⟨hcell, hbel⟩ | exact ⟨hcell, hbel.drew⟩ | assumption)
    (first | (go_at_call 100; go_split_ands; refine (HF.out _ (by assumption)).mono ?_; rintro e w3 ⟨rfl, rfl⟩))
  clear hcell hbel
  obtain ⟨f0, f1, f2, f3, f4, f5, z0, z1, z2, z3, z4, z5⟩ := HT.out
  go_wp2
  exact bodyPost_ret (v := .tuple #[.agg #[.int .i64 0, .int .i64 0, .int .i64 0, .string ⟨#[]⟩, .int .u32 0, .int .i64 0], .int .i64 0, .iface 56 (.int .i64 3)]) (by simp [results, Tryd.results79, go_sem, hsz1, f0, f1, f2, f3, f4, f5]; done) rfl ⟨rfl, (((((((bdrew (HW1.out.alloc HW1.out.size _)).setCell (by simp) _).setCell (by simp) _).setCell (by simp) _).setCell (by simp) _).setCell (by simp) _).setCell (by simp) _)⟩

set_option maxRecDepth 100000 in
set_option maxHeartbeats 2000000 in
omit HB in
theorem numG_big (HF : Hid (∀ W, Below w.heap.size w W → Calls Tryd.prog 100 #[.slice (some ⟨b, o + a, none⟩) (((a : Int) + (P : Int)).toNat - a) (c - a), .int .u32 (B : Int)] W fun e w' => e = .returned (.tuple #[.int .u32 0, .bool false]) ∧ w' = W)) (_hz1 : ((a : Int) + (P : Int) == a) = false) (_hz2 : ((P : Int) == 0) = false) : Calls Tryd.prog 79 #[.slice (some ⟨b, o, none⟩) s.size c] w (ITok w (.bad 3)) := by
  have h0i : (0 : Int) < s.size := by omega
  have hpi : ((a : Int) + P) ≤ s.size := by omega
  have hpc : a + P ≤ c := by omega
  have hpci : ((a : Int) + P) ≤ c := by omega
  have hc0 : ¬ c = 0 := by omega
  have hp0 : (0 : Int) ≤ (P : Int) := by omega
  have hP1 : P ≤ s.size := by omega
  have hP2 : (P : Int) ≤ s.size := by omega
  have hP3 : (P : Int) ≤ c := by omega
  have hlo : (a : Int) ≤ (a : Int) + P := by omega
  go_enter Tryd.func79, Tryd.ntmps79
  go_wp2_with fail
  refine (HBO.out _ ((Below.refl _ _).alloc (Nat.le_refl _) _)).mono ?_
  rintro e w1 ⟨rfl, hb1⟩
  rw [World.size_alloc] at hb1
  have HT := Lib.hid (tokAt hb1)
  have HW1 := Lib.hid (below_of_tok hb1)
  have hsz1 : w.heap.size < w1.heap.size := by have := hb1.size; simp at this; omega
  have hne1 : ¬ w.heap.size = w1.heap.size := by omega
  have hne2 : ¬ w1.heap.size = w.heap.size := by omega
  clear hb1
  go_wp2_with fail
  refine (HRUN.out _ _ (HW1.out.alloc HW1.out.size _) (by simp)).mono ?_
  rintro e w2 ⟨rfl, q, rfl⟩
  go_wp2_with fail
  have hcell : ((w1.alloc (.cells #[.int .u32 (B : Int)] 37)).drewN q).cell? ⟨w1.heap.size, 0, none⟩ = some (.int .u32 (B : Int)) := by simp
  have hbel := bdrew (HW1.out.alloc HW1.out.size (.cells #[.int .u32 (B : Int)] 37)) (n := q)
  go_region_held3 (fun W => W.cell? ⟨w1.heap.size, 0, none⟩ = some (.int .u32 (B : Int)) ∧ Below w.heap.size w W)
    (first | exact ⟨hcell, hbel⟩ | exact ⟨hcell, hbel.drew⟩ | assumption)
    (first | (go_at_call 100; go_split_ands; refine (HF.out _ (by assumption)).mono ?_; rintro e w3 ⟨rfl, rfl⟩))
  clear hcell hbel
  obtain ⟨f0, f1, f2, f3, f4, f5, z0, z1, z2, z3, z4, z5⟩ := HT.out
  go_wp2
  exact bodyPost_ret (v := .tuple #[.agg #[.int .i64 0, .int .i64 0, .int .i64 0, .string ⟨#[]⟩, .int .u32 0, .int .i64 0], .int .i64 0, .iface 56 (.int .i64 3)]) (by simp [results, Tryd.results79, go_sem, hsz1, f0, f1, f2, f3, f4, f5]; done) rfl ⟨rfl, (((((((bdrew (HW1.out.alloc HW1.out.size _)).setCell (by simp) _).setCell (by simp) _).setCell (by simp) _).setCell (by simp) _).setCell (by simp) _).setCell (by simp) _)⟩

set_option maxRecDepth 100000 in
set_option maxHeartbeats 2000000 in
omit hpn in
theorem numG_tail (HF : Hid (∀ W, Below w.heap.size w W → Calls Tryd.prog 100 #[.slice (some ⟨b, o + a, none⟩) (((a : Int) + (P : Int)).toNat - a) (c - a), .int .u32 (B : Int)] W fun e w' => e = .returned (.tuple #[.int .u32 V, .bool true]) ∧ w' = W)) (hz1 : ((a : Int) + (P : Int) == a) = false) (_hz2 : ((P : Int) == 0) = false) (hlt : a + P < s.size) (HG : Hid (∀ W, Calls Tryd.prog 81 #[.int .u8 ((s[a + P]'hlt).toNat : Int)] W fun e w' => e = .returned (.bool true) ∧ W = w')) : Calls Tryd.prog 79 #[.slice (some ⟨b, o, none⟩) s.size c] w (ITok w (.bad 3)) := by
  have hlti : ((a : Int) + P) < s.size := by omega
  have h0i : (0 : Int) < s.size := by omega
  have hpi : ((a : Int) + P) ≤ s.size := by omega
  have hpc : a + P ≤ c := by omega
  have hpci : ((a : Int) + P) ≤ c := by omega
  have hc0 : ¬ c = 0 := by omega
  have hp0 : (0 : Int) ≤ (P : Int) := by omega
  have hP1 : P ≤ s.size := by omega
  have hP2 : (P : Int) ≤ s.size := by omega
  have hP3 : (P : Int) ≤ c := by omega
  have hlo : (a : Int) ≤ (a : Int) + P := by omega
  go_enter Tryd.func79, Tryd.ntmps79
  go_wp2_with fail
  refine (HBO.out _ ((Below.refl _ _).alloc (Nat.le_refl _) _)).mono ?_
  rintro e w1 ⟨rfl, hb1⟩
  rw [World.size_alloc] at hb1
  have HT := Lib.hid (tokAt hb1)
  have HW1 := Lib.hid (below_of_tok hb1)
  have hsz1 : w.heap.size < w1.heap.size := by have := hb1.size; simp at this; omega
  have hne1 : ¬ w.heap.size = w1.heap.size := by omega
  have hne2 : ¬ w1.heap.size = w.heap.size := by omega
  clear hb1
  go_wp2_with fail
  refine (HRUN.out _ _ (HW1.out.alloc HW1.out.size _) (by simp)).mono ?_
  rintro e w2 ⟨rfl, q, rfl⟩
  go_wp2_with fail
  have hcell : ((w1.alloc (.cells #[.int .u32 (B : Int)] 37)).drewN q).cell? ⟨w1.heap.size, 0, none⟩ = some (.int .u32 (B : Int)) := by simp
  have hbel := bdrew (HW1.out.alloc HW1.out.size (.cells #[.int .u32 (B : Int)] 37)) (n := q)
  go_region_held3 (fun W => W.cell? ⟨w1.heap.size, 0, none⟩ = some (.int .u32 (B : Int)) ∧ Below w.heap.size w W)
    (first | exact ⟨hcell, hbel⟩ | exact ⟨hcell, hbel.drew⟩ | assumption)
    (first | (go_at_call 100; go_split_ands; refine (HF.out _ (by assumption)).mono ?_; rintro e w3 ⟨rfl, rfl⟩))
  clear hcell hbel
  obtain ⟨f0, f1, f2, f3, f4, f5, z0, z1, z2, z3, z4, z5⟩ := HT.out
  have hck := (HB.out.below (bdrew (HW1.out.alloc HW1.out.size (.cells #[.int .u32 (B : Int)] 37)) (n := q + 1))).cell (a + P) hlt
  go_wp2_with (first | (go_at_call 81; refine (HG.out _).mono ?_; rintro e w4 ⟨rfl, rfl⟩))
  exact bodyPost_ret (v := .tuple #[.agg #[.int .i64 0, .int .i64 0, .int .i64 0, .string ⟨#[]⟩, .int .u32 0, .int .i64 0], .int .i64 0, .iface 56 (.int .i64 3)]) (by simp [results, Tryd.results79, go_sem, hsz1, f0, f1, f2, f3, f4, f5]; done) rfl ⟨rfl, (((((((bdrew (HW1.out.alloc HW1.out.size _)).setCell (by simp) _).setCell (by simp) _).setCell (by simp) _).setCell (by simp) _).setCell (by simp) _).setCell (by simp) _)⟩

set_option maxRecDepth 100000 in
set_option maxHeartbeats 2000000 in
omit hpn in
theorem numG_ok (HF : Hid (∀ W, Below w.heap.size w W → Calls Tryd.prog 100 #[.slice (some ⟨b, o + a, none⟩) (((a : Int) + (P : Int)).toNat - a) (c - a), .int .u32 (B : Int)] W fun e w' => e = .returned (.tuple #[.int .u32 V, .bool true]) ∧ w' = W)) (hz1 : ((a : Int) + (P : Int) == a) = false) (_hz2 : ((P : Int) == 0) = false) (hlt : a + P < s.size) (HG : Hid (∀ W, Calls Tryd.prog 81 #[.int .u8 ((s[a + P]'hlt).toNat : Int)] W fun e w' => e = .returned (.bool false) ∧ W = w')) : Calls Tryd.prog 79 #[.slice (some ⟨b, o, none⟩) s.size c] w (ITok w (.ok 5 [] V (a + P))) := by
  have hlti : ((a : Int) + P) < s.size := by omega
  have h0i : (0 : Int) < s.size := by omega
  have hpi : ((a : Int) + P) ≤ s.size := by omega
  have hpc : a + P ≤ c := by omega
  have hpci : ((a : Int) + P) ≤ c := by omega
  have hc0 : ¬ c = 0 := by omega
  have hp0 : (0 : Int) ≤ (P : Int) := by omega
  have hP1 : P ≤ s.size := by omega
  have hP2 : (P : Int) ≤ s.size := by omega
  have hP3 : (P : Int) ≤ c := by omega
  have hlo : (a : Int) ≤ (a : Int) + P := by omega
  go_enter Tryd.func79, Tryd.ntmps79
  go_wp2_with fail
  refine (HBO.out _ ((Below.refl _ _).alloc (Nat.le_refl _) _)).mono ?_
  rintro e w1 ⟨rfl, hb1⟩
  rw [World.size_alloc] at hb1
  have HT := Lib.hid (tokAt hb1)
  have HW1 := Lib.hid (below_of_tok hb1)
  have hsz1 : w.heap.size < w1.heap.size := by have := hb1.size; simp at this; omega
  have hne1 : ¬ w.heap.size = w1.heap.size := by omega
  have hne2 : ¬ w1.heap.size = w.heap.size := by omega
  clear hb1
  go_wp2_with fail
  refine (HRUN.out _ _ (HW1.out.alloc HW1.out.size _) (by simp)).mono ?_
  rintro e w2 ⟨rfl, q, rfl⟩
  go_wp2_with fail
  have hcell : ((w1.alloc (.cells #[.int .u32 (B : Int)] 37)).drewN q).cell? ⟨w1.heap.size, 0, none⟩ = some (.int .u32 (B : Int)) := by simp
  have hbel := bdrew (HW1.out.alloc HW1.out.size (.cells #[.int .u32 (B : Int)] 37)) (n := q)
  go_region_held3 (fun W => W.cell? ⟨w1.heap.size, 0, none⟩ = some (.int .u32 (B : Int)) ∧ Below w.heap.size w W)
    (first | exact ⟨hcell, hbel⟩ | exact ⟨hcell, hbel.drew⟩ | assumption)
    (first | (go_at_call 100; go_split_ands; refine (HF.out _ (by assumption)).mono ?_; rintro e w3 ⟨rfl, rfl⟩))
  clear hcell hbel
  obtain ⟨f0, f1, f2, f3, f4, f5, z0, z1, z2, z3, z4, z5⟩ := HT.out
  have hck := (HB.out.below (bdrew (HW1.out.alloc HW1.out.size (.cells #[.int .u32 (B : Int)] 37)) (n := q + 1))).cell (a + P) hlt
  go_wp2_with (first | (go_at_call 81; refine (HG.out _).mono ?_; rintro e w4 ⟨rfl, rfl⟩))
  exact bodyPost_ret (v := .tuple #[.agg #[.int .i64 5, .int .i64 0, .int .i64 0, .string ⟨#[]⟩, .int .u32 V, .int .i64 0], .int .i64 ((a : Int) + P), .nilIface]) (by simp [results, Tryd.results79, go_sem, hsz1, f0, f1, f2, f3, f4, f5]; done) rfl ⟨num_out rfl (by omega), (((((((bdrew (HW1.out.alloc HW1.out.size _)).setCell (by simp) _).setCell (by simp) _).setCell (by simp) _).setCell (by simp) _).setCell (by simp) _).setCell (by simp) _)⟩

set_option maxRecDepth 100000 in
set_option maxHeartbeats 2000000 in
omit HB hpn in
theorem numG_end (HF : Hid (∀ W, Below w.heap.size w W → Calls Tryd.prog 100 #[.slice (some ⟨b, o + a, none⟩) (((a : Int) + (P : Int)).toNat - a) (c - a), .int .u32 (B : Int)] W fun e w' => e = .returned (.tuple #[.int .u32 V, .bool true]) ∧ w' = W)) (hz1 : ((a : Int) + (P : Int) == a) = false) (_hz2 : ((P : Int) == 0) = false) (hlt : a + P = s.size) : Calls Tryd.prog 79 #[.slice (some ⟨b, o, none⟩) s.size c] w (ITok w (.ok 5 [] V (a + P))) := by
  have hlti : ¬ ((a : Int) + P) < s.size := by omega
  have h0i : (0 : Int) < s.size := by omega
  have hpi : ((a : Int) + P) ≤ s.size := by omega
  have hpc : a + P ≤ c := by omega
  have hpci : ((a : Int) + P) ≤ c := by omega
  have hc0 : ¬ c = 0 := by omega
  have hp0 : (0 : Int) ≤ (P : Int) := by omega
  have hP1 : P ≤ s.size := by omega
  have hP2 : (P : Int) ≤ s.size := by omega
  have hP3 : (P : Int) ≤ c := by omega
  have hlo : (a : Int) ≤ (a : Int) + P := by omega
  go_enter Tryd.func79, Tryd.ntmps79
  go_wp2_with fail
  refine (HBO.out _ ((Below.refl _ _).alloc (Nat.le_refl _) _)).mono ?_
  rintro e w1 ⟨rfl, hb1⟩
  rw [World.size_alloc] at hb1
  have HT := Lib.hid (tokAt hb1)
  have HW1 := Lib.hid (below_of_tok hb1)
  have hsz1 : w.heap.size < w1.heap.size := by have := hb1.size; simp at this; omega
  have hne1 : ¬ w.heap.size = w1.heap.size := by omega
  have hne2 : ¬ w1.heap.size = w.heap.size := by omega
  clear hb1
  go_wp2_with fail
  refine (HRUN.out _ _ (HW1.out.alloc HW1.out.size _) (by simp)).mono ?_
  rintro e w2 ⟨rfl, q, rfl⟩
  go_wp2_with fail
  have hcell : ((w1.alloc (.cells #[.int .u32 (B : Int)] 37)).drewN q).cell? ⟨w1.heap.size, 0, none⟩ = some (.int .u32 (B : Int)) := by simp
  have hbel := bdrew (HW1.out.alloc HW1.out.size (.cells #[.int .u32 (B : Int)] 37)) (n := q)
  go_region_held3 (fun W => W.cell? ⟨w1.heap.size, 0, none⟩ = some (.int .u32 (B : Int)) ∧ Below w.heap.size w W)
    (first | exact ⟨hcell, hbel⟩ | exact ⟨hcell, hbel.drew⟩ | assumption)
    (first | (go_at_call 100; go_split_ands; refine (HF.out _ (by assumption)).mono ?_; rintro e w3 ⟨rfl, rfl⟩))
  clear hcell hbel
  obtain ⟨f0, f1, f2, f3, f4, f5, z0, z1, z2, z3, z4, z5⟩ := HT.out
  go_wp2
  exact bodyPost_ret (v := .tuple #[.agg #[.int .i64 5, .int .i64 0, .int .i64 0, .string ⟨#[]⟩, .int .u32 V, .int .i64 0], .int .i64 ((a : Int) + P), .nilIface]) (by simp [results, Tryd.results79, go_sem, hsz1, f0, f1, f2, f3, f4, f5]; done) rfl ⟨num_out rfl (by omega), (((((((bdrew (HW1.out.alloc HW1.out.size _)).setCell (by simp) _).setCell (by simp) _).setCell (by simp) _).setCell (by simp) _).setCell (by simp) _).setCell (by simp) _)⟩
end

section
variable (s : ByteArray) (b o c : Nat) (w : World) (B : Nat) (h0 : 0 < s.size) (hs : s.size ≤ 65536) (hsa : Hid (s.size = c))
  (HBO : Hid (∀ W, Below w.heap.size w W → Calls Tryd.prog 97 #[.slice (some ⟨b, o, none⟩) s.size c] W fun e w' => e = .returned (.tuple #[.int .u32 (B : Int), .int .i64 (c : Int)]) ∧ Below W.heap.size W w'))
  (HRUN : Hid (∀ A n W g, n = 0 → Below w.heap.size w W → W.cell? ⟨g, 0, none⟩ = some (.int .u32 (B : Int)) → Calls Tryd.prog 50 #[.slice A n 0, .func (.func 98) #[] #[.pointer (some ⟨g, 0, none⟩)]] W fun e w' => e = .returned (.int .i64 0) ∧ Drew W w'))
  (HF : Hid (∀ A n W, n = 0 → Below w.heap.size w W → Calls Tryd.prog 100 #[.slice A n 0, .int .u32 (B : Int)] W fun e w' => e = .returned (.tuple #[.int .u32 0, .bool true]) ∧ w' = W))
include h0 hs hsa HBO HRUN HF

set_option maxRecDepth 100000 in
set_option maxHeartbeats 2000000 in
theorem num_none : Calls Tryd.prog 79 #[.slice (some ⟨b, o, none⟩) s.size c] w (ITok w (.bad 3)) := by
  have hs1 : s.size ≤ c := Nat.le_of_eq hsa.out
  have hs2 : c ≤ s.size := Nat.le_of_eq hsa.out.symm
  have h0i : (0 : Int) < s.size := by omega
  have hai : (c : Int) ≤ s.size := by omega
  have hc0 : ¬ c = 0 := by omega
  go_enter Tryd.func79, Tryd.ntmps79
  go_wp2_with fail
  refine (HBO.out _ ((Below.refl _ _).alloc (Nat.le_refl _) _)).mono ?_
  rintro e w1 ⟨rfl, hb1⟩
  rw [World.size_alloc] at hb1
  have HT := Lib.hid (tokAt hb1)
  have HW1 := Lib.hid (below_of_tok hb1)
  have hsz1 : w.heap.size < w1.heap.size := by have := hb1.size; simp at this; omega
  have hne1 : ¬ w.heap.size = w1.heap.size := by omega
  have hne2 : ¬ w1.heap.size = w.heap.size := by omega
  clear hb1
  go_wp2_with fail
  refine (HRUN.out _ _ _ _ (by omega) (HW1.out.alloc HW1.out.size _) (by simp)).mono ?_
  rintro e w2 ⟨rfl, q, rfl⟩
  go_wp2_with fail
  have hcell : ((w1.alloc (.cells #[.int .u32 (B : Int)] 37)).drewN q).cell? ⟨w1.heap.size, 0, none⟩ = some (.int .u32 (B : Int)) := by simp
  have hbel := bdrew (HW1.out.alloc HW1.out.size (.cells #[.int .u32 (B : Int)] 37)) (n := q)
  go_region_held3 (fun W => W.cell? ⟨w1.heap.size, 0, none⟩ = some (.int .u32 (B : Int)) ∧ Below w.heap.size w W)
    (first | exact ⟨hcell, hbel⟩ | exact ⟨hcell, hbel.drew⟩ | assumption)
    (first | (go_at_call 100; go_split_ands; refine (HF.out _ _ _ (by omega) (by assumption)).mono ?_; rintro e w3 ⟨rfl, rfl⟩))
  clear hcell hbel
  obtain ⟨f0, f1, f2, f3, f4, f5, z0, z1, z2, z3, z4, z5⟩ := HT.out
  go_wp2
  exact bodyPost_ret (v := .tuple #[.agg #[.int .i64 0, .int .i64 0, .int .i64 0, .string ⟨#[]⟩, .int .u32 0, .int .i64 0], .int .i64 0, .iface 56 (.int .i64 3)]) (by simp [results, Tryd.results79, go_sem, hsz1, f0, f1, f2, f3, f4, f5]; done) rfl ⟨rfl, (((((((bdrew (HW1.out.alloc HW1.out.size _)).setCell (by simp) _).setCell (by simp) _).setCell (by simp) _).setCell (by simp) _).setCell (by simp) _).setCell (by simp) _)⟩
end

theorem value_any (B : Nat) (hB : B = 10 ∨ B = 2 ∨ B = 16) (s : ByteArray) (A : Option Addr) (c : Nat) (w : World) (hs : s.size ≤ 65536) (hh : Holds w A s) :
    Calls Tryd.prog 100 #[.slice A s.size c, .int .u32 (B : Int)] w fun e w' => ValOut (valF B s.data.toList 0) e ∧ w = w' := by
  rcases hB with rfl | rfl | rfl
  · exact value_10 s A c w hs hh
  · exact value_2 s A c w hs hh
  · exact value_16 s A c w hs hh

theorem baseOf_cases (l : Bs) : ((baseOf l).1 = 10 ∨ (baseOf l).1 = 2 ∨ (baseOf l).1 = 16) ∧ (baseOf l).2 ≤ l.length := by
  unfold baseOf
  split
  · rename_i h
    refine ⟨.inr (.inr rfl), ?_⟩
    have := congrArg List.length h
    rw [List.length_take] at this
    simp only [List.length_cons, List.length_nil] at this
    show 2 ≤ _
    omega
  · split
    · rename_i h
      refine ⟨.inr (.inl rfl), ?_⟩
      have := congrArg List.length h
      rw [List.length_take] at this
      simp only [List.length_cons, List.length_nil] at this
      show 2 ≤ _
      omega
    · exact ⟨.inl rfl, Nat.zero_le _⟩

theorem numeral_eq (l : Bs) : numeral l = if (baseOf l).2 + pre (fun c => digV c < (baseOf l).1) (l.drop (baseOf l).2) = (baseOf l).2 then none
    else if goOnName (l.getD ((baseOf l).2 + pre (fun c => digV c < (baseOf l).1) (l.drop (baseOf l).2)) 0) && decide ((baseOf l).2 + pre (fun c => digV c < (baseOf l).1) (l.drop (baseOf l).2) < l.length) then none
    else if valF (baseOf l).1 ((l.take ((baseOf l).2 + pre (fun c => digV c < (baseOf l).1) (l.drop (baseOf l).2))).drop (baseOf l).2) 0 < 4294967296 then some (valF (baseOf l).1 ((l.take ((baseOf l).2 + pre (fun c => digV c < (baseOf l).1) (l.drop (baseOf l).2))).drop (baseOf l).2) 0, (baseOf l).2 + pre (fun c => digV c < (baseOf l).1) (l.drop (baseOf l).2)) else none := rfl

/-- number: the document's numeral, or none. -/
theorem number_any (s : ByteArray) (b o c : Nat) (w : World) (hs : s.size ≤ 65536) (h0 : 0 < s.size) (hc : s.size ≤ c) (hB : Bytes w b o s) :
    Calls Tryd.prog 79 #[.slice (some ⟨b, o, none⟩) s.size c] w (ITok w (match numeral s.data.toList with
      | some (v, n) => .ok 5 [] v n
      | none => .bad 3)) := by
  have hbo := fun W (hW : Below w.heap.size w W) => baseOf_any s (some ⟨b, o, none⟩) c W hs hc (.inr ⟨b, o, rfl, hB.below hW⟩)
  have hbc := baseOf_cases s.data.toList
  have hnum := numeral_eq s.data.toList
  generalize numeral s.data.toList = r at *
  generalize (baseOf s.data.toList).1 = B at *
  generalize (baseOf s.data.toList).2 = a at *
  obtain ⟨hB3, ha⟩ := hbc
  rw [len_size] at ha hnum
  have hsz : (s.extract a s.size).size = s.size - a := by simp
  have hval := fun (ss : ByteArray) A c W => value_any B hB3 ss A c W
  by_cases hca : c = a
  · have hsc : s.size = a := by omega
    have hr : r = none := by
      rw [hnum]
      have : s.data.toList.drop a = [] := List.drop_eq_nil_of_le (by rw [len_size]; omega)
      rw [this]
      exact if_pos rfl
    rw [hr]
    subst hca
    refine num_none s b o c w B h0 hs (Lib.hid hsc) (Lib.hid hbo) (Lib.hid fun A n W g hn hW hg => ?_) (Lib.hid fun A n W hn hW => ?_)
    · subst hn
      exact run_digits B g ByteArray.empty A 0 W (by decide) (.inl rfl) hg
    · subst hn
      refine (hval ByteArray.empty A 0 W (by decide) (.inl rfl)).mono ?_
      rintro e w' ⟨h | h, hw⟩
      · exact ⟨h.2, hw.symm⟩
      · exact absurd (show 4294967296 ≤ 0 from h.1) (by decide)
  · have hrun : ∀ W g, Below w.heap.size w W → W.cell? ⟨g, 0, none⟩ = some (.int .u32 (B : Int)) → Calls Tryd.prog 50 #[.slice (some ⟨b, o + a, none⟩) (s.size - a) (c - a), .func (.func 98) #[] #[.pointer (some ⟨g, 0, none⟩)]] W fun e w' => e = .returned (.int .i64 (pre (fun c => decide (digV c < B)) (s.data.toList.drop a) : Nat)) ∧ Drew W w' := by
      intro W g hW hg
      have h := run_digits B g (s.extract a s.size) (some ⟨b, o + a, none⟩) (c - a) W (by omega) (.inr ⟨b, o + a, rfl, (hB.below hW).part a s.size (Nat.le_refl _)⟩) hg
      rw [hsz, ext_drop] at h
      exact h
    have hp := pre_le (fun c => decide (digV c < B)) (s.data.toList.drop a)
    rw [List.length_drop, len_size] at hp
    generalize pre (fun c => decide (digV c < B)) (s.data.toList.drop a) = P at *
    have hf : ∀ W, Below w.heap.size w W → Calls Tryd.prog 100 #[.slice (some ⟨b, o + a, none⟩) (((a : Int) + (P : Int)).toNat - a) (c - a), .int .u32 (B : Int)] W fun e w' => ValOut (valF B ((s.data.toList.take (a + P)).drop a) 0) e ∧ w' = W := by
      intro W hW
      have h := hval (s.extract a (a + P)) (some ⟨b, o + a, none⟩) (c - a) W (by simp; omega) (.inr ⟨b, o + a, rfl, (hB.below hW).part a (a + P) (by omega)⟩)
      have h1 : (s.extract a (a + P)).size = ((a : Int) + (P : Int)).toNat - a := by simp; omega
      rw [h1, ext_list] at h
      exact h.mono fun e w' h => ⟨h.1, h.2.symm⟩
    have hai : (a : Int) ≤ s.size := by omega
    have HBO := Lib.hid hbo
    have HRUN := Lib.hid hrun
    have HB := Lib.hid hB
    by_cases hP : P = 0
    · have hr : r = none := by rw [hnum]; exact if_pos (by omega)
      rw [hr]
      refine numG_zero s b o c w B a P hs h0 hc hca hai HBO HRUN (by omega) (x := 0) (f := true) (Lib.hid fun W hW => (hf W hW).mono ?_) (by simp; omega) (by simp; omega)
      rintro e w' ⟨h | h, hw⟩
      · have : valF B ((s.data.toList.take (a + P)).drop a) 0 = 0 := by
          rw [List.drop_eq_nil_of_le (by rw [List.length_take]; omega)]
          rfl
        rw [this] at h
        exact ⟨h.2, hw⟩
      · exfalso
        have : valF B ((s.data.toList.take (a + P)).drop a) 0 = 0 := by
          rw [List.drop_eq_nil_of_le (by rw [List.length_take]; omega)]
          rfl
        rw [this] at h
        omega
    · rw [if_neg (show ¬ a + P = a by omega)] at hnum
      have z1 : ((a : Int) + (P : Int) == a) = false := by rw [beq_eq_false_iff_ne]; omega
      have z2 : ((P : Int) == 0) = false := by rw [beq_eq_false_iff_ne]; omega
      by_cases hV : valF B ((s.data.toList.take (a + P)).drop a) 0 < 4294967296
      · rw [if_pos hV] at hnum
        have hf2 : ∀ W, Below w.heap.size w W → Calls Tryd.prog 100 #[.slice (some ⟨b, o + a, none⟩) (((a : Int) + (P : Int)).toNat - a) (c - a), .int .u32 (B : Int)] W fun e w' => e = .returned (.tuple #[.int .u32 ((valF B ((s.data.toList.take (a + P)).drop a) 0 : Nat) : Int), .bool true]) ∧ w' = W := by
          intro W hW
          refine (hf W hW).mono ?_
          rintro e w' ⟨h | h, hw⟩
          · exact ⟨h.2, hw⟩
          · omega
        by_cases hlt : a + P < s.size
        · have hg := fun W => goesOnInName_any (s[a + P]'hlt) W
          rw [at_getD s (a + P) hlt, decide_eq_true hlt, Bool.and_true] at hnum
          cases hgo : goOnName (s[a + P]'hlt) with
          | true =>
            rw [hgo] at hg hnum
            rw [if_pos rfl] at hnum
            rw [hnum]
            exact numG_tail s b o c w B a P _ hs h0 hc HB hca hai HBO HRUN (Lib.hid hf2) z1 z2 hlt (Lib.hid hg)
          | false =>
            rw [hgo] at hg hnum
            rw [if_neg (by decide)] at hnum
            rw [hnum]
            exact numG_ok s b o c w B a P _ hs h0 hc HB hca hai HBO HRUN (Lib.hid hf2) z1 z2 hlt (Lib.hid hg)
        · rw [decide_eq_false hlt, Bool.and_false, if_neg (by decide)] at hnum
          rw [hnum]
          exact numG_end s b o c w B a P _ hs h0 hc hca hai HBO HRUN (Lib.hid hf2) z1 z2 (by omega)
      · rw [if_neg hV, ite_self] at hnum
        rw [hnum]
        refine numG_big s b o c w B a P hs h0 hc hca hai HBO HRUN (by omega) (Lib.hid fun W hW => (hf W hW).mono ?_) z1 z2
        rintro e w' ⟨h | h, hw⟩
        · exact absurd h.1 hV
        · exact ⟨h.2, hw⟩
end Go.Proofs.YtbhfblogjlpnlaaDoor
