/-
  LexLines: any bytes are the lines of tokens that the document says, or are refused at the place, and for the reason, that it says: the walk. Conditions: the handle of the type error; the variable internal/bytealg.MaxLen holds a number; the source's room is within the model's bound.
-/
import Derived.Test.YtbhfblogjlpnlaaDoorLxGen
namespace Go.Proofs.YtbhfblogjlpnlaaDoor
open Go.RowKit

/-- What holds in every world behind the reference's answer. -/
def KS (w3 : World) (L C c : Int) (x : Value) (args : Array Value) (own src : Value) (s : ByteArray) (W : World) : Prop := Kept w3 L C c x 14 args W ∧ SrcV W own s ∧ SrcV W src s
section
variable {w3 : World} {L C c : Int} {x : Value} {args : Array Value} {own src : Value} {s : ByteArray} {W W' : World}
theorem KS.next (h : KS w3 L C c x args own src s W) (hb : Below W.heap.size W W') : KS w3 L C c x args own src s W' := ⟨h.1.next hb, h.2.1.below hb, h.2.2.below hb⟩
theorem KS.drew (h : KS w3 L C c x args own src s W) : KS w3 L C c x args own src s W.drew := h.next (Below.refl _ _).drew
/-- What a region is told of a world. -/
def Told (w3 : World) (L C c : Int) (own src : Value) (s : ByteArray) (W : World) : Prop :=
  W.cell? ⟨w3.heap.size, 0, none⟩ = some (.int .i64 L) ∧ W.cell? ⟨w3.heap.size, 1, none⟩ = some (.int .i64 C) ∧ W.cell? ⟨w3.heap.size, 2, none⟩ = some (.int .i64 c) ∧
    (convert 22 9 own).run Tryd.prog W = .ok (.string s) W ∧ (convert 22 9 src).run Tryd.prog W = .ok (.string s) W
theorem KS.told (h : KS w3 L C c x args own src s W) : Told w3 L C c own src s W := ⟨h.1.c0, h.1.c1, h.1.c2, conv_src h.2.1, conv_src h.2.2⟩
theorem KS.fault (h : KS w3 L C c x args own src s W) : Calls Tryd.prog 15 #[x] W fun e w' => e = .returned (.agg #[.int .i64 L, .int .i64 C, .int .i64 c]) ∧ Told w3 L C c own src s w' ∧ KS w3 L C c x args own src s w' :=
  (h.1.call W (Below.refl _ _)).mono fun _ _ ⟨he, hb⟩ => ⟨he, (h.next hb).told, h.next hb⟩
theorem KS.same (h : KS w3 L C c x args own src s W) : Calls Tryd.prog 14 args W fun e w' => e = .returned (.bool true) ∧ Told w3 L C c own src s w' ∧ KS w3 L C c x args own src s w' :=
  (h.1.same W (Below.refl _ _)).mono fun _ _ ⟨he, hb⟩ => ⟨he, (h.next hb).told, h.next hb⟩
end

theorem str_beq (s : ByteArray) : (s.toList == s.toList) = true := beq_self_eq_true _

set_option maxRecDepth 100000 in
set_option maxHeartbeats 4000000 in
theorem lines_short (s : ByteArray) (v : Value) (all : List (List Piece)) (err : Option (Nat × Nat × Int)) (w : World) (hv : Vars w) (h : SrcV w v s) (hs : s.size ≤ 2000) (hcode : ∀ a b c, err = some (a, b, c) → 1 ≤ c ∧ c ≤ 16)
    (hsz : (shown all err).length ≤ 70000) (hps : ∀ ps ∈ shown all err, ps.length ≤ 70000)
    (hI : ∀ W own, Below w.heap.size w W → SrcV W own s → Calls Tryd.prog 12 #[own] W (ILines W all err))
    (hR : ∀ W, Below w.heap.size w W → SrcV W v s → Calls Tryd.prog 13 #[v] W (LinesOut W all err)) :
    Calls Tryd.prog 3 #[v] w fun e w' => e = .returned (.bool true) ∧ Below w.heap.size w w' := by
  obtain ⟨i0, hi, hz0, hz1, hz2⟩ := info_parts Tryd.infoByte
  have HAW := Lib.hid (awake_any w hv)
  have HV := Lib.hid hv
  have HSRC := Lib.hid h
  have HI := Lib.hid hI
  have HR := Lib.hid hR
  have hef := eql_faults
  have hsb := str_beq s
  clear hv hI hR
  have g1 : ¬ (2000 : Int) < s.size := by omega
  have g2 : ¬ (70000 : Int) < s.size := by omega
  rcases h with ⟨rfl, rfl⟩ | ⟨b, o, c, rfl, h2, h3, h4⟩
  · have hon := fun (W : World) => run_append_owned_none (P := Tryd.prog) (w := W.alloc (.cells #[] 5)) W.heap.size 22 22 5 i0 1 Tryd.underlying22 hi (.slice (some ⟨W.heap.size, 0, none⟩) 0 0) 0 [] (World.ownsRow_lit W #[] 0 (Nat.le_refl _) (Nat.zero_le _) rfl)
    go_enter Tryd.func3, Tryd.ntmps3
    go_wp2_with fail
    refine HAW.out.mono ?_
    rintro e w1 ⟨rfl, hb1⟩
    have HB1 := Lib.hid hb1
    clear hb1
    go_wp2_with fail
    have hbo : Below w.heap.size w (w1.alloc (.cells #[] 5)) := HB1.out.alloc HB1.out.size _
    have hsrc : SrcV (w1.alloc (.cells #[] 5)) (.slice (some ⟨w1.heap.size, 0, none⟩) 0 0) ByteArray.empty := .inr ⟨w1.heap.size, 0, 0, rfl, Nat.le_refl _, Nat.zero_le _, by simp, fun j hj => absurd hj (Nat.not_lt_zero _)⟩
    have HBO := Lib.hid hbo
    have HOW := Lib.hid hsrc
    refine (HI.out _ _ hbo hsrc).mono ?_
    clear hbo hsrc
    rintro e w3 h3x
    obtain ⟨vL, x, rfl, hrd, hft, _, _, hb3⟩ := ilines_gen (HV.out.below HBO.out) hcode h3x
    clear h3x
    have HB3 := Lib.hid (HBO.out.trans (hb3.mono HBO.out.size))
    have HOW3 := Lib.hid (HOW.out.below hb3)
    have HRD := Lib.hid hrd
    have HFT := Lib.hid hft
    clear hrd hft hb3
    go_wp2_with fail
    refine (HR.out _ HB3.out (HSRC.out.below HB3.out)).mono ?_
    rintro e w4 h4x
    obtain ⟨vK, rfl, hrk, hb4⟩ := rlines_gen h4x
    clear h4x
    have hks : KS w4 (fL err) (fC err) (fc err) x #[vL, vK] (.slice (some ⟨w1.heap.size, 0, none⟩) 0 0) (.slice none 0 0) ByteArray.empty (w4.alloc (.cells #[.int .i64 (fL err), .int .i64 (fC err), .int .i64 (fc err)] 30)) :=
      ⟨⟨Below.refl _ _, fun W' hW => (HFT.out.below (hb4.trans (((Below.refl _ _).alloc (Nat.le_refl _) _).mono hb4.size))) W' hW, fun W' hW => (same_any _ _ _ _ _ W' hsz hps ((HRD.out.below (hb4.trans (((Below.refl _ _).alloc (Nat.le_refl _) _).mono hb4.size))).below hW) ((hrk.below ((Below.refl _ _).alloc (Nat.le_refl _) _)).below hW)).mono fun e w' ⟨he, hd⟩ => ⟨he, hd.below⟩⟩,
        HOW3.out.below (hb4.trans (((Below.refl _ _).alloc (Nat.le_refl _) _).mono hb4.size)), (HSRC.out.below HB3.out).below (hb4.trans (((Below.refl _ _).alloc (Nat.le_refl _) _).mono hb4.size))⟩
    have HB4 := Lib.hid (HB3.out.trans (hb4.mono HB3.out.size))
    have HKS := Lib.hid hks
    clear hks hrk hb4
    go_wp2_with fail
    go_region_held3 (fun W => W.cell? ⟨w4.heap.size, 0, none⟩ = some (.int .i64 (fL err)) ∧ W.cell? ⟨w4.heap.size, 1, none⟩ = some (.int .i64 (fC err)) ∧ W.cell? ⟨w4.heap.size, 2, none⟩ = some (.int .i64 (fc err)) ∧ (convert 22 9 (.slice (some ⟨w1.heap.size, 0, none⟩) 0 0)).run Tryd.prog W = .ok (.string ByteArray.empty) W ∧ (convert 22 9 (.slice none 0 0)).run Tryd.prog W = .ok (.string ByteArray.empty) W ∧ KS w4 (fL err) (fC err) (fc err) x #[vL, vK] (.slice (some ⟨w1.heap.size, 0, none⟩) 0 0) (.slice none 0 0) ByteArray.empty W)
      (first | exact ⟨HKS.out.drew.told.1, HKS.out.drew.told.2.1, HKS.out.drew.told.2.2.1, HKS.out.drew.told.2.2.2.1, HKS.out.drew.told.2.2.2.2, HKS.out.drew⟩ | (go_split_ands; exact ⟨by assumption, by assumption, by assumption, by assumption, by assumption, by assumption⟩) | (go_split_ands; refine ⟨by assumption, by assumption, by assumption, by assumption, by assumption, KS.drew (by assumption)⟩) | go_keep)
      (first | (go_at_call 15; go_split_ands; refine (KS.fault (by assumption)).mono ?_; rintro e w5 ⟨rfl, ⟨t0, t1, t2, t3, t4⟩, hk5⟩) | (go_at_call 14; go_split_ands; refine (KS.same (by assumption)).mono ?_; rintro e w5 ⟨rfl, ⟨t0, t1, t2, t3, t4⟩, hk5⟩))
    all_goals (try go_wp2_with fail)
    all_goals go_ret
    all_goals exact ⟨rfl, HB4.out.trans (((Below.refl _ _).alloc HB4.out.size _).trans (hk5.1.below.mono (Nat.le_succ_of_le HB4.out.size)))⟩
  · have HHB := Lib.hid h4
    clear h4
    go_enter Tryd.func3, Tryd.ntmps3
    go_wp2_with fail
    refine HAW.out.mono ?_
    rintro e w1 ⟨rfl, hb1⟩
    have HB1 := Lib.hid hb1
    clear hb1
    have hbytes : ∀ j u, (s.data.toList.map u8V)[j]? = some u → (w1.alloc (.cells #[] 5)).cell? ((⟨b, o, none⟩ : Addr).add j) = some u := by
      intro j u hu
      have hadd : (⟨b, o, none⟩ : Addr).add j = ⟨b, o + j, none⟩ := by unfold Addr.add; split <;> simp_all
      have hj : j < s.size := by have := (List.getElem?_eq_some_iff.1 hu).1; simpa using this
      rw [hadd, ((HHB.out.below HB1.out).below ((Below.refl _ _).alloc (Nat.le_refl _) (.cells #[] 5))).cell j hj]
      have hj2 : j < s.data.toList.length := by simpa using hj
      rw [List.getElem?_map, List.getElem?_eq_getElem hj2] at hu
      exact hu
    have HHY := Lib.hid hbytes
    have HHL : Hid ((s.data.toList.map u8V).length = s.size * 1) := Lib.hid (by simp)
    clear hbytes
    go_wp2_with (first | (at_builtin; refine wpList_append_own _ rfl _ _ 22 rfl w1.heap.size 5 i0 (.int .u8 0) 1 1 Tryd.underlying22 hi hz0 hz1 hz2 rfl (by decide) _ _ _ rfl (World.ownsRow_lit w1 #[] 0 (Nat.le_refl _) (Nat.zero_le _) rfl) ⟨b, o, none⟩ s.size c (s.data.toList.map u8V) rfl HHL.out HHY.out (by intro u hu; obtain ⟨c, _, rfl⟩ := List.mem_map.1 hu; rfl) (by unfold maxLen; omega) (by omega) (by simp) ?_; intro v' w2 hown' hgrow _))
    have hbo : Below w.heap.size w w2 := Below.grown (HB1.out.alloc HB1.out.size _) hgrow (by simp; exact Nat.le_succ_of_le HB1.out.size) (fun g hg => by cases hg; exact HB1.out.size)
    have hsrc : SrcV w2 v' s := src_of_own hown' (by simp)
    clear hown' hgrow
    have HBO := Lib.hid hbo
    have HOW := Lib.hid hsrc
    refine (HI.out _ _ hbo hsrc).mono ?_
    clear hbo hsrc
    rintro e w3 h3x
    obtain ⟨vL, x, rfl, hrd, hft, _, _, hb3⟩ := ilines_gen (HV.out.below HBO.out) hcode h3x
    clear h3x
    have HB3 := Lib.hid (HBO.out.trans (hb3.mono HBO.out.size))
    have HOW3 := Lib.hid (HOW.out.below hb3)
    have HRD := Lib.hid hrd
    have HFT := Lib.hid hft
    clear hrd hft hb3
    go_wp2_with fail
    refine (HR.out _ HB3.out (HSRC.out.below HB3.out)).mono ?_
    rintro e w4 h4x
    obtain ⟨vK, rfl, hrk, hb4⟩ := rlines_gen h4x
    clear h4x
    have hks : KS w4 (fL err) (fC err) (fc err) x #[vL, vK] v' (.slice (some ⟨b, o, none⟩) s.size c) s (w4.alloc (.cells #[.int .i64 (fL err), .int .i64 (fC err), .int .i64 (fc err)] 30)) :=
      ⟨⟨Below.refl _ _, fun W' hW => (HFT.out.below (hb4.trans (((Below.refl _ _).alloc (Nat.le_refl _) _).mono hb4.size))) W' hW, fun W' hW => (same_any _ _ _ _ _ W' hsz hps ((HRD.out.below (hb4.trans (((Below.refl _ _).alloc (Nat.le_refl _) _).mono hb4.size))).below hW) ((hrk.below ((Below.refl _ _).alloc (Nat.le_refl _) _)).below hW)).mono fun e w' ⟨he, hd⟩ => ⟨he, hd.below⟩⟩,
        HOW3.out.below (hb4.trans (((Below.refl _ _).alloc (Nat.le_refl _) _).mono hb4.size)), (HSRC.out.below HB3.out).below (hb4.trans (((Below.refl _ _).alloc (Nat.le_refl _) _).mono hb4.size))⟩
    have HB4 := Lib.hid (HB3.out.trans (hb4.mono HB3.out.size))
    have HKS := Lib.hid hks
    clear hks hrk hb4
    go_wp2_with fail
    go_region_held3 (fun W => W.cell? ⟨w4.heap.size, 0, none⟩ = some (.int .i64 (fL err)) ∧ W.cell? ⟨w4.heap.size, 1, none⟩ = some (.int .i64 (fC err)) ∧ W.cell? ⟨w4.heap.size, 2, none⟩ = some (.int .i64 (fc err)) ∧ (convert 22 9 v').run Tryd.prog W = .ok (.string s) W ∧ (convert 22 9 (.slice (some ⟨b, o, none⟩) s.size c)).run Tryd.prog W = .ok (.string s) W ∧ KS w4 (fL err) (fC err) (fc err) x #[vL, vK] v' (.slice (some ⟨b, o, none⟩) s.size c) s W)
      (first | exact ⟨HKS.out.drew.told.1, HKS.out.drew.told.2.1, HKS.out.drew.told.2.2.1, HKS.out.drew.told.2.2.2.1, HKS.out.drew.told.2.2.2.2, HKS.out.drew⟩ | (go_split_ands; exact ⟨by assumption, by assumption, by assumption, by assumption, by assumption, by assumption⟩) | (go_split_ands; refine ⟨by assumption, by assumption, by assumption, by assumption, by assumption, KS.drew (by assumption)⟩) | go_keep)
      (first | (go_at_call 15; go_split_ands; refine (KS.fault (by assumption)).mono ?_; rintro e w5 ⟨rfl, ⟨t0, t1, t2, t3, t4⟩, hk5⟩) | (go_at_call 14; go_split_ands; refine (KS.same (by assumption)).mono ?_; rintro e w5 ⟨rfl, ⟨t0, t1, t2, t3, t4⟩, hk5⟩))
    all_goals (try go_wp2_with fail)
    all_goals go_ret
    all_goals exact ⟨rfl, HB4.out.trans (((Below.refl _ _).alloc HB4.out.size _).trans (hk5.1.below.mono (Nat.le_succ_of_le HB4.out.size)))⟩
set_option maxRecDepth 100000 in
set_option maxHeartbeats 4000000 in
theorem lines_over (s : ByteArray) (v : Value) (all : List (List Piece)) (err : Option (Nat × Nat × Int)) (w : World) (hv : Vars w) (h : SrcV w v s) (hs : 65536 < s.size) (hs2 : s.size ≤ 70000) (hcode : ∀ a b c, err = some (a, b, c) → 1 ≤ c ∧ c ≤ 16)
    (hsz : (shown all err).length ≤ 70000) (hps : ∀ ps ∈ shown all err, ps.length ≤ 70000)
    (hI : ∀ W own, Below w.heap.size w W → SrcV W own s → Calls Tryd.prog 12 #[own] W (ILines W all err))
    (hR : ∀ W, Below w.heap.size w W → SrcV W v s → Calls Tryd.prog 13 #[v] W (LinesOut W all err)) :
    Calls Tryd.prog 3 #[v] w fun e w' => e = .returned (.bool true) ∧ Below w.heap.size w w' := by
  obtain ⟨i0, hi, hz0, hz1, hz2⟩ := info_parts Tryd.infoByte
  have HAW := Lib.hid (awake_any w hv)
  have HV := Lib.hid hv
  have HSRC := Lib.hid h
  have HI := Lib.hid hI
  have HR := Lib.hid hR
  have hef := eql_faults
  have hsb := str_beq s
  clear hv hI hR
  have g1 : (2000 : Int) < s.size := by omega
  have g2 : ¬ (s.size : Int) ≤ 65536 := by omega
  have g3 : ¬ (70000 : Int) < s.size := by omega
  rcases h with ⟨rfl, rfl⟩ | ⟨b, o, c, rfl, h2, h3, h4⟩
  · exact absurd hs (by decide)
  · have HHB := Lib.hid h4
    clear h4
    go_enter Tryd.func3, Tryd.ntmps3
    go_wp2_with fail
    refine HAW.out.mono ?_
    rintro e w1 ⟨rfl, hb1⟩
    have HB1 := Lib.hid hb1
    clear hb1
    have hbytes : ∀ j u, (s.data.toList.map u8V)[j]? = some u → (w1.alloc (.cells #[] 5)).cell? ((⟨b, o, none⟩ : Addr).add j) = some u := by
      intro j u hu
      have hadd : (⟨b, o, none⟩ : Addr).add j = ⟨b, o + j, none⟩ := by unfold Addr.add; split <;> simp_all
      have hj : j < s.size := by have := (List.getElem?_eq_some_iff.1 hu).1; simpa using this
      rw [hadd, ((HHB.out.below HB1.out).below ((Below.refl _ _).alloc (Nat.le_refl _) (.cells #[] 5))).cell j hj]
      have hj2 : j < s.data.toList.length := by simpa using hj
      rw [List.getElem?_map, List.getElem?_eq_getElem hj2] at hu
      exact hu
    have HHY := Lib.hid hbytes
    have HHL : Hid ((s.data.toList.map u8V).length = s.size * 1) := Lib.hid (by simp)
    clear hbytes
    go_wp2_with (first | (at_builtin; refine wpList_append_own _ rfl _ _ 22 rfl w1.heap.size 5 i0 (.int .u8 0) 1 1 Tryd.underlying22 hi hz0 hz1 hz2 rfl (by decide) _ _ _ rfl (World.ownsRow_lit w1 #[] 0 (Nat.le_refl _) (Nat.zero_le _) rfl) ⟨b, o, none⟩ s.size c (s.data.toList.map u8V) rfl HHL.out HHY.out (by intro u hu; obtain ⟨c, _, rfl⟩ := List.mem_map.1 hu; rfl) (by unfold maxLen; omega) (by omega) (by simp) ?_; intro v' w2 hown' hgrow _))
    have hbo : Below w.heap.size w w2 := Below.grown (HB1.out.alloc HB1.out.size _) hgrow (by simp; exact Nat.le_succ_of_le HB1.out.size) (fun g hg => by cases hg; exact HB1.out.size)
    have hsrc : SrcV w2 v' s := src_of_own hown' (by simp)
    clear hown' hgrow
    have HBO := Lib.hid hbo
    have HOW := Lib.hid hsrc
    refine (HI.out _ _ hbo hsrc).mono ?_
    clear hbo hsrc
    rintro e w3 h3x
    obtain ⟨vL, x, rfl, hrd, hft, _, _, hb3⟩ := ilines_gen (HV.out.below HBO.out) hcode h3x
    clear h3x
    have HB3 := Lib.hid (HBO.out.trans (hb3.mono HBO.out.size))
    have HOW3 := Lib.hid (HOW.out.below hb3)
    have HRD := Lib.hid hrd
    have HFT := Lib.hid hft
    clear hrd hft hb3
    go_wp2_with fail
    refine (HR.out _ HB3.out (HSRC.out.below HB3.out)).mono ?_
    rintro e w4 h4x
    obtain ⟨vK, rfl, hrk, hb4⟩ := rlines_gen h4x
    clear h4x
    have hks : KS w4 (fL err) (fC err) (fc err) x #[vL, vK] v' (.slice (some ⟨b, o, none⟩) s.size c) s (w4.alloc (.cells #[.int .i64 (fL err), .int .i64 (fC err), .int .i64 (fc err)] 30)) :=
      ⟨⟨Below.refl _ _, fun W' hW => (HFT.out.below (hb4.trans (((Below.refl _ _).alloc (Nat.le_refl _) _).mono hb4.size))) W' hW, fun W' hW => (same_any _ _ _ _ _ W' hsz hps ((HRD.out.below (hb4.trans (((Below.refl _ _).alloc (Nat.le_refl _) _).mono hb4.size))).below hW) ((hrk.below ((Below.refl _ _).alloc (Nat.le_refl _) _)).below hW)).mono fun e w' ⟨he, hd⟩ => ⟨he, hd.below⟩⟩,
        HOW3.out.below (hb4.trans (((Below.refl _ _).alloc (Nat.le_refl _) _).mono hb4.size)), (HSRC.out.below HB3.out).below (hb4.trans (((Below.refl _ _).alloc (Nat.le_refl _) _).mono hb4.size))⟩
    have HB4 := Lib.hid (HB3.out.trans (hb4.mono HB3.out.size))
    have HKS := Lib.hid hks
    clear hks hrk hb4
    go_wp2_with fail
    go_region_held3 (fun W => W.cell? ⟨w4.heap.size, 0, none⟩ = some (.int .i64 (fL err)) ∧ W.cell? ⟨w4.heap.size, 1, none⟩ = some (.int .i64 (fC err)) ∧ W.cell? ⟨w4.heap.size, 2, none⟩ = some (.int .i64 (fc err)) ∧ (convert 22 9 v').run Tryd.prog W = .ok (.string s) W ∧ (convert 22 9 (.slice (some ⟨b, o, none⟩) s.size c)).run Tryd.prog W = .ok (.string s) W ∧ KS w4 (fL err) (fC err) (fc err) x #[vL, vK] v' (.slice (some ⟨b, o, none⟩) s.size c) s W)
      (first | exact ⟨HKS.out.drew.told.1, HKS.out.drew.told.2.1, HKS.out.drew.told.2.2.1, HKS.out.drew.told.2.2.2.1, HKS.out.drew.told.2.2.2.2, HKS.out.drew⟩ | (go_split_ands; exact ⟨by assumption, by assumption, by assumption, by assumption, by assumption, by assumption⟩) | (go_split_ands; refine ⟨by assumption, by assumption, by assumption, by assumption, by assumption, KS.drew (by assumption)⟩) | go_keep)
      (first | (go_at_call 15; go_split_ands; refine (KS.fault (by assumption)).mono ?_; rintro e w5 ⟨rfl, ⟨t0, t1, t2, t3, t4⟩, hk5⟩) | (go_at_call 14; go_split_ands; refine (KS.same (by assumption)).mono ?_; rintro e w5 ⟨rfl, ⟨t0, t1, t2, t3, t4⟩, hk5⟩))
    all_goals (try go_wp2_with fail)
    all_goals go_ret
    all_goals exact ⟨rfl, HB4.out.trans (((Below.refl _ _).alloc HB4.out.size _).trans (hk5.1.below.mono (Nat.le_succ_of_le HB4.out.size)))⟩

set_option maxRecDepth 100000 in
set_option maxHeartbeats 1000000 in
theorem lines_pass (v : Value) (A : Option Addr) (n c : Nat) (w : World) (hv : Vars w) (hn : v = .slice A n c) (h : ((2000 : Int) < n ∧ (n : Int) ≤ 65536) ∨ ((2000 : Int) < n ∧ ¬ (n : Int) ≤ 65536 ∧ (70000 : Int) < n)) :
    Calls Tryd.prog 3 #[v] w fun e w' => e = .returned (.bool true) ∧ Below w.heap.size w w' := by
  have HAW := Lib.hid (awake_any w hv)
  subst hn
  clear hv
  rcases h with ⟨g1, g2⟩ | ⟨g1, g2, g3⟩
  all_goals
    go_enter Tryd.func3, Tryd.ntmps3
    go_wp2_with fail
    refine HAW.out.mono ?_
    rintro e w1 ⟨rfl, hb1⟩
    go_wp2_with fail
    go_ret
    exact ⟨rfl, hb1⟩

theorem lines_law (s : ByteArray) (v : Value) (w : World) (hv : Vars w) (h : SrcV w v s) : Calls Tryd.prog 3 #[v] w fun e w' => e = .returned (.bool true) ∧ Below w.heap.size w w' := by
  by_cases h1 : s.size ≤ 2000
  · obtain ⟨all, err, hr⟩ := lines_all (cut s.data.toList) 0
    have hlen := hr.len.1
    have hcl := cut_len s.data.toList
    rw [len_size] at hcl
    have hps := pieces_le hr (m := s.size) (fun l hl => by have := cut_mem s.data.toList l hl; rwa [len_size] at this)
    refine lines_short s v all err w hv h h1 (fun a b c he => ?_) ?_ ?_ (fun W own hW hs => lines_src s own all err W (hv.below hW) (by omega) hs hr) (fun W _ hs => rlines_src s v all err W (by omega) hs hr)
    · have := (hr.code a b c he).2.2
      omega
    · cases err with
      | none => show all.length ≤ 70000; omega
      | some x => exact Nat.zero_le _
    · cases err with
      | none => intro ps hp; have := hps ps hp; omega
      | some x => intro ps hp; cases hp
  by_cases h2 : s.size ≤ 65536
  · rcases h with ⟨rfl, rfl⟩ | ⟨b, o, c, rfl, _⟩
    · exact absurd h1 (by decide)
    · exact lines_pass _ _ _ _ w hv rfl (.inl ⟨by omega, by omega⟩)
  by_cases h3 : s.size ≤ 70000
  · refine lines_over s v [] (some (0, 0, 12)) w hv h (by omega) h3 (fun a b c he => by cases he; decide) (Nat.zero_le _) (fun ps hp => by cases hp) (fun W own hW hs => ?_) (fun W hW hs => ?_)
    · rcases hs with ⟨rfl, rfl⟩ | ⟨b, o, c, rfl, _⟩
      · exact absurd h1 (by decide)
      · exact ilines_long _ _ _ (by omega) W (hv.below hW).handle
    · rcases hs with ⟨rfl, rfl⟩ | ⟨b, o, c, rfl, _⟩
      · exact absurd h1 (by decide)
      · exact lines_long _ _ _ (by omega) W
  · rcases h with ⟨rfl, rfl⟩ | ⟨b, o, c, rfl, _⟩
    · exact absurd h1 (by decide)
    · exact lines_pass _ _ _ _ w hv rfl (.inr ⟨by omega, by omega, by omega⟩)
end Go.Proofs.YtbhfblogjlpnlaaDoor
