/-
  The contracts of the program's isMark, tightness, between, function and Symbol. Condition: a Local's scope is 0.
-/
import Derived.Test.YtbhfblogjlpnlaaDoorExSpec
import Derived.Test.YtbhfblogjlpnlaaDoorErr
import Derived.RegionTactic
import Derived.BigRegion
import Derived.Deep.RegionHeld3
import Derived.Deep.DeepCutAuto
namespace Go.Proofs.YtbhfblogjlpnlaaDoor
open Go.RowKit

set_option maxRecDepth 100000 in
set_option maxHeartbeats 1000000 in
theorem emark_is (t : Tk6) (s : ByteArray) (w : World) : Calls Tryd.prog 85 #[t.val, .string s] w fun e w' => e = .returned (.bool (t.isM s)) ∧ Below w.heap.size w w' := by
  go_enter Tryd.func85, Tryd.ntmps85
  have HBA : Hid (∀ o, Below w.heap.size w (w.alloc o)) := Lib.hid (fun o => (Below.refl _ _).alloc (Nat.le_refl _) o)
  by_cases hk : t.kind = 7
  · have k1 : (t.kind == 7) = true := by rw [hk]; rfl
    have hr : t.isM s = (t.text.toList == s.toList) := by unfold Tk6.isM; rw [k1, Bool.true_and]
    clear hk
    go_wp2_with fail
    go_ret
    exact ⟨by rw [hr]; rfl, HBA.out _⟩
  · have k1 : (t.kind == 7) = false := beq_eq_false_iff_ne.2 hk
    have hr : t.isM s = false := by unfold Tk6.isM; rw [k1, Bool.false_and]
    clear hk
    go_wp2_with fail
    go_ret
    exact ⟨by rw [hr]; rfl, HBA.out _⟩

set_option maxRecDepth 100000 in
set_option maxHeartbeats 4000000 in
theorem tight_is (t : Tk6) (w : World) : Calls Tryd.prog 64 #[t.val] w fun e w' => e = .returned (.int .i64 (t.tight : Int)) ∧ Below w.heap.size w w' := by
  have HBA : Hid (∀ o, Below w.heap.size w (w.alloc o)) := Lib.hid (fun o => (Below.refl _ _).alloc (Nat.le_refl _) o)
  by_cases hk : t.kind = 7
  · have k1 : (t.kind == 7) = true := by rw [hk]; rfl
    have hr : t.tight = (if isT t.text [42] || isT t.text [47] then 6 else if isT t.text [43] || isT t.text [45] then 5 else if isT t.text [60, 60] || isT t.text [62, 62] then 4 else if isT t.text [38] then 3 else if isT t.text [94] then 2 else if isT t.text [124] then 1 else 0) := by unfold Tk6.tight; rw [if_pos hk]
    unfold isT at hr
    clear hk
    by_cases m0 : (t.text.toList == [42]) = true
    · have HR : Hid (t.tight = 6) := Lib.hid (by rw [hr]; simp only [m0, Bool.true_or, if_true])
      clear hr
      go_enter Tryd.func64, Tryd.ntmps64
      go_wp2_with fail
      go_ret
      exact ⟨by rw [HR.out]; rfl, HBA.out _⟩
    replace m0 : (t.text.toList == [42]) = false := (Bool.not_eq_true _).mp m0
    by_cases m1 : (t.text.toList == [47]) = true
    · have HR : Hid (t.tight = 6) := Lib.hid (by rw [hr]; simp only [m0, m1, Bool.or_true, if_true])
      clear hr
      go_enter Tryd.func64, Tryd.ntmps64
      go_wp2_with fail
      go_ret
      exact ⟨by rw [HR.out]; rfl, HBA.out _⟩
    replace m1 : (t.text.toList == [47]) = false := (Bool.not_eq_true _).mp m1
    by_cases m2 : (t.text.toList == [43]) = true
    · have HR : Hid (t.tight = 5) := Lib.hid (by rw [hr]; simp only [m0, m1, m2, Bool.true_or, Bool.or_self, Bool.false_eq_true, if_true, if_false])
      clear hr
      go_enter Tryd.func64, Tryd.ntmps64
      go_wp2_with fail
      go_ret
      exact ⟨by rw [HR.out]; rfl, HBA.out _⟩
    replace m2 : (t.text.toList == [43]) = false := (Bool.not_eq_true _).mp m2
    by_cases m3 : (t.text.toList == [45]) = true
    · have HR : Hid (t.tight = 5) := Lib.hid (by rw [hr]; simp only [m0, m1, m2, m3, Bool.or_true, Bool.or_self, Bool.false_eq_true, if_true, if_false])
      clear hr
      go_enter Tryd.func64, Tryd.ntmps64
      go_wp2_with fail
      go_ret
      exact ⟨by rw [HR.out]; rfl, HBA.out _⟩
    replace m3 : (t.text.toList == [45]) = false := (Bool.not_eq_true _).mp m3
    by_cases m4 : (t.text.toList == [60, 60]) = true
    · have HR : Hid (t.tight = 4) := Lib.hid (by rw [hr]; simp only [m0, m1, m2, m3, m4, Bool.true_or, Bool.or_self, Bool.false_eq_true, if_true, if_false])
      clear hr
      go_enter Tryd.func64, Tryd.ntmps64
      go_wp2_with fail
      go_ret
      exact ⟨by rw [HR.out]; rfl, HBA.out _⟩
    replace m4 : (t.text.toList == [60, 60]) = false := (Bool.not_eq_true _).mp m4
    by_cases m5 : (t.text.toList == [62, 62]) = true
    · have HR : Hid (t.tight = 4) := Lib.hid (by rw [hr]; simp only [m0, m1, m2, m3, m4, m5, Bool.or_true, Bool.or_self, Bool.false_eq_true, if_true, if_false])
      clear hr
      go_enter Tryd.func64, Tryd.ntmps64
      go_wp2_with fail
      go_ret
      exact ⟨by rw [HR.out]; rfl, HBA.out _⟩
    replace m5 : (t.text.toList == [62, 62]) = false := (Bool.not_eq_true _).mp m5
    by_cases m6 : (t.text.toList == [38]) = true
    · have HR : Hid (t.tight = 3) := Lib.hid (by rw [hr]; simp only [m0, m1, m2, m3, m4, m5, m6, Bool.or_self, Bool.false_eq_true, if_true, if_false])
      clear hr
      go_enter Tryd.func64, Tryd.ntmps64
      go_wp2_with fail
      go_ret
      exact ⟨by rw [HR.out]; rfl, HBA.out _⟩
    replace m6 : (t.text.toList == [38]) = false := (Bool.not_eq_true _).mp m6
    by_cases m7 : (t.text.toList == [94]) = true
    · have HR : Hid (t.tight = 2) := Lib.hid (by rw [hr]; simp only [m0, m1, m2, m3, m4, m5, m6, m7, Bool.or_self, Bool.false_eq_true, if_true, if_false])
      clear hr
      go_enter Tryd.func64, Tryd.ntmps64
      go_wp2_with fail
      go_ret
      exact ⟨by rw [HR.out]; rfl, HBA.out _⟩
    replace m7 : (t.text.toList == [94]) = false := (Bool.not_eq_true _).mp m7
    by_cases m8 : (t.text.toList == [124]) = true
    · have HR : Hid (t.tight = 1) := Lib.hid (by rw [hr]; simp only [m0, m1, m2, m3, m4, m5, m6, m7, m8, Bool.or_self, Bool.false_eq_true, if_true, if_false])
      clear hr
      go_enter Tryd.func64, Tryd.ntmps64
      go_wp2_with fail
      go_ret
      exact ⟨by rw [HR.out]; rfl, HBA.out _⟩
    replace m8 : (t.text.toList == [124]) = false := (Bool.not_eq_true _).mp m8
    have HR : Hid (t.tight = 0) := Lib.hid (by rw [hr]; simp only [m0, m1, m2, m3, m4, m5, m6, m7, m8, Bool.or_self, Bool.false_eq_true, if_false])
    clear hr
    go_enter Tryd.func64, Tryd.ntmps64
    go_wp2_with fail
    go_ret
    exact ⟨by rw [HR.out]; rfl, HBA.out _⟩
  · have k1 : (t.kind == 7) = false := beq_eq_false_iff_ne.2 hk
    have HR : Hid (t.tight = 0) := Lib.hid (by unfold Tk6.tight; rw [if_neg hk])
    clear hk
    go_enter Tryd.func64, Tryd.ntmps64
    go_wp2_with fail
    go_ret
    exact ⟨by rw [HR.out]; rfl, HBA.out _⟩

set_option maxRecDepth 100000 in
set_option maxHeartbeats 4000000 in
theorem two_is (s : ByteArray) (w : World) : Calls Tryd.prog 66 #[.string s] w fun e w' => e = .returned (.int .i64 (twoKind s)) ∧ w' = w := by
  have hr : twoKind s = twoKind s := rfl
  conv at hr => rhs; unfold twoKind
  unfold isT at hr
  by_cases m0 : (s.toList == [124]) = true
  · have HR : Hid (twoKind s = 17) := Lib.hid (by rw [hr]; simp only [m0, if_true])
    clear hr
    go_enter Tryd.func66, Tryd.ntmps66
    go_wp2_with fail
    go_ret
    exact ⟨by rw [HR.out]; rfl, rfl⟩
  replace m0 : (s.toList == [124]) = false := (Bool.not_eq_true _).mp m0
  by_cases m1 : (s.toList == [94]) = true
  · have HR : Hid (twoKind s = 16) := Lib.hid (by rw [hr]; simp only [m0, m1, Bool.false_eq_true, if_false, if_true])
    clear hr
    go_enter Tryd.func66, Tryd.ntmps66
    go_wp2_with fail
    go_ret
    exact ⟨by rw [HR.out]; rfl, rfl⟩
  replace m1 : (s.toList == [94]) = false := (Bool.not_eq_true _).mp m1
  by_cases m2 : (s.toList == [38]) = true
  · have HR : Hid (twoKind s = 15) := Lib.hid (by rw [hr]; simp only [m0, m1, m2, Bool.false_eq_true, if_false, if_true])
    clear hr
    go_enter Tryd.func66, Tryd.ntmps66
    go_wp2_with fail
    go_ret
    exact ⟨by rw [HR.out]; rfl, rfl⟩
  replace m2 : (s.toList == [38]) = false := (Bool.not_eq_true _).mp m2
  by_cases m3 : (s.toList == [60, 60]) = true
  · have HR : Hid (twoKind s = 13) := Lib.hid (by rw [hr]; simp only [m0, m1, m2, m3, Bool.false_eq_true, if_false, if_true])
    clear hr
    go_enter Tryd.func66, Tryd.ntmps66
    go_wp2_with fail
    go_ret
    exact ⟨by rw [HR.out]; rfl, rfl⟩
  replace m3 : (s.toList == [60, 60]) = false := (Bool.not_eq_true _).mp m3
  by_cases m4 : (s.toList == [62, 62]) = true
  · have HR : Hid (twoKind s = 14) := Lib.hid (by rw [hr]; simp only [m0, m1, m2, m3, m4, Bool.false_eq_true, if_false, if_true])
    clear hr
    go_enter Tryd.func66, Tryd.ntmps66
    go_wp2_with fail
    go_ret
    exact ⟨by rw [HR.out]; rfl, rfl⟩
  replace m4 : (s.toList == [62, 62]) = false := (Bool.not_eq_true _).mp m4
  by_cases m5 : (s.toList == [43]) = true
  · have HR : Hid (twoKind s = 9) := Lib.hid (by rw [hr]; simp only [m0, m1, m2, m3, m4, m5, Bool.false_eq_true, if_false, if_true])
    clear hr
    go_enter Tryd.func66, Tryd.ntmps66
    go_wp2_with fail
    go_ret
    exact ⟨by rw [HR.out]; rfl, rfl⟩
  replace m5 : (s.toList == [43]) = false := (Bool.not_eq_true _).mp m5
  by_cases m6 : (s.toList == [45]) = true
  · have HR : Hid (twoKind s = 10) := Lib.hid (by rw [hr]; simp only [m0, m1, m2, m3, m4, m5, m6, Bool.false_eq_true, if_false, if_true])
    clear hr
    go_enter Tryd.func66, Tryd.ntmps66
    go_wp2_with fail
    go_ret
    exact ⟨by rw [HR.out]; rfl, rfl⟩
  replace m6 : (s.toList == [45]) = false := (Bool.not_eq_true _).mp m6
  by_cases m7 : (s.toList == [42]) = true
  · have HR : Hid (twoKind s = 11) := Lib.hid (by rw [hr]; simp only [m0, m1, m2, m3, m4, m5, m6, m7, Bool.false_eq_true, if_false, if_true])
    clear hr
    go_enter Tryd.func66, Tryd.ntmps66
    go_wp2_with fail
    go_ret
    exact ⟨by rw [HR.out]; rfl, rfl⟩
  replace m7 : (s.toList == [42]) = false := (Bool.not_eq_true _).mp m7
  have HR : Hid (twoKind s = 12) := Lib.hid (by rw [hr]; simp only [m0, m1, m2, m3, m4, m5, m6, m7, Bool.false_eq_true, if_false])
  clear hr
  go_enter Tryd.func66, Tryd.ntmps66
  go_wp2_with fail
  go_ret
  exact ⟨by rw [HR.out]; rfl, rfl⟩

set_option maxRecDepth 100000 in
set_option maxHeartbeats 4000000 in
theorem func_is (s : ByteArray) (w : World) : Calls Tryd.prog 87 #[.string s] w fun e w' => e = .returned (.int .i64 (funcKind s)) ∧ w' = w := by
  have hr : funcKind s = funcKind s := rfl
  conv at hr => rhs; unfold funcKind
  unfold isT at hr
  by_cases m0 : (s.toList == [104, 105]) = true
  · have HR : Hid (funcKind s = 6) := Lib.hid (by rw [hr]; simp only [m0, if_true])
    clear hr
    go_enter Tryd.func87, Tryd.ntmps87
    go_wp2_with fail
    go_ret
    exact ⟨by rw [HR.out]; rfl, rfl⟩
  replace m0 : (s.toList == [104, 105]) = false := (Bool.not_eq_true _).mp m0
  by_cases m1 : (s.toList == [108, 111]) = true
  · have HR : Hid (funcKind s = 7) := Lib.hid (by rw [hr]; simp only [m0, m1, Bool.false_eq_true, if_false, if_true])
    clear hr
    go_enter Tryd.func87, Tryd.ntmps87
    go_wp2_with fail
    go_ret
    exact ⟨by rw [HR.out]; rfl, rfl⟩
  replace m1 : (s.toList == [108, 111]) = false := (Bool.not_eq_true _).mp m1
  have HR : Hid (funcKind s = 8) := Lib.hid (by rw [hr]; simp only [m0, m1, Bool.false_eq_true, if_false])
  clear hr
  go_enter Tryd.func87, Tryd.ntmps87
  go_wp2_with fail
  go_ret
  exact ⟨by rw [HR.out]; rfl, rfl⟩

set_option maxRecDepth 100000 in
set_option maxHeartbeats 4000000 in
theorem itoa0_is (w : World) : Calls Tryd.prog 109 #[.int .i64 0] w fun e w' => e = .returned (.string ⟨#[48]⟩) ∧ w' = w := by
  go_enter Tryd.func109, Tryd.ntmps109
  go_wp2
  go_ret
  exact ⟨rfl, rfl⟩

set_option maxRecDepth 100000 in
set_option maxHeartbeats 4000000 in
theorem symbol_name (t : Tk6) (w : World) (hk : t.kind = 1) : Calls Tryd.prog 105 #[t.val] w fun e w' => e = .returned (.string t.text) ∧ Below w.heap.size w w' := by
  have HBA : Hid (∀ o, Below w.heap.size w (w.alloc o)) := Lib.hid (fun o => (Below.refl _ _).alloc (Nat.le_refl _) o)
  have k1 : (t.kind == 1) = true := by rw [hk]; rfl
  clear hk
  go_enter Tryd.func105, Tryd.ntmps105
  go_wp2_with fail
  go_ret
  exact ⟨rfl, HBA.out _⟩

set_option maxRecDepth 100000 in
set_option maxHeartbeats 4000000 in
theorem symbol_local (t : Tk6) (w : World) (hk : t.kind = 2) (h0 : t.spare = 0) (hs : t.text.size ≤ 100000) : Calls Tryd.prog 105 #[t.val] w fun e w' => e = .returned (.string (t.text ++ ⟨#[64, 48]⟩)) ∧ Below w.heap.size w w' := by
  have HBA : Hid (∀ o, Below w.heap.size w (w.alloc o)) := Lib.hid (fun o => (Below.refl _ _).alloc (Nat.le_refl _) o)
  obtain ⟨kind, line, col, text, num, spare⟩ := t
  simp only at hk h0 hs
  subst hk h0
  have hadd1 : ¬ 9223372036854775807 < text.size + 1 := by omega
  have hadd2 : ¬ 9223372036854775807 < text.size + 1 + 1 := by omega
  have kt := Blk.new w 39 #[.int .i64 2, .int .i64 line, .int .i64 col, .string text, .int .u32 num, .int .i64 0]
  go_enter Tryd.func105, Tryd.ntmps105
  go_wp2_with fail
  have HB := Lib.hid (HBA.out (.cells #[.int .i64 2, .int .i64 line, .int .i64 col, .string text, .int .u32 num, .int .i64 0] 39))
  clear HBA
  generalize (w.alloc (.cells #[.int .i64 2, .int .i64 line, .int .i64 col, .string text, .int .u32 num, .int .i64 0] 39)) = wA at kt HB ⊢
  generalize w.heap.size = g at kt ⊢
  have s3 : wA.cell? ⟨g, 3, none⟩ = some (.string text) := kt.cell 3
  have s5 : wA.cell? ⟨g, 5, none⟩ = some (.int .i64 0) := kt.cell 5
  have KT := Lib.hid kt
  have HI := Lib.hid (fun W (hW : Below wA.heap.size wA W) => (itoa0_is W).mono (fun e w' (h : e = .returned (.string ⟨#[48]⟩) ∧ w' = W) => (⟨h.1, h.2 ▸ hW⟩ : e = .returned (.string ⟨#[48]⟩) ∧ Below wA.heap.size wA w')))
  clear kt
  go_region_held3 (fun W => W.cell? ⟨g, 3, none⟩ = some (.string text) ∧ W.cell? ⟨g, 5, none⟩ = some (.int .i64 0) ∧ Below wA.heap.size wA W)
    (first | exact ⟨s3, s5, Below.refl _ _⟩ | exact ⟨s3, s5, (Below.refl _ _).drew⟩ | (go_split_ands; exact ⟨by assumption, by assumption, by assumption⟩) | go_keep)
    (first | (go_at_call 109; go_split_ands; refine (HI.out _ (by assumption)).mono ?_; rintro e w3 ⟨rfl, hb3⟩; have r3 : w3.cell? ⟨g, 3, none⟩ = some (.string text) := (KT.out.below hb3 KT.out.lt).cell 3; have r5 : w3.cell? ⟨g, 5, none⟩ = some (.int .i64 0) := (KT.out.below hb3 KT.out.lt).cell 5))
  go_wp2_with fail
  go_ret
  exact ⟨by rw [ByteArray.append_assoc]; rfl, HB.out.trans (hb3.mono HB.out.size)⟩
end Go.Proofs.YtbhfblogjlpnlaaDoor
