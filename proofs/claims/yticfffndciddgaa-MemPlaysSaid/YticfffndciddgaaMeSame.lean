/-
  The contract of the reference's Same: are two rows of cells the same? Condition: the rows lie in the memory.
-/
import Derived.Test.YticfffndciddgaaMeLoad
import Derived.Laws.StructEq
import Derived.ChangeKeysEq
namespace Go.Proofs.Yticfffndciddgaa
open Go.RowKit Go.Maps

theorem cell_eq (a b c d : Int) (w : World) : (Op.equalIn 10000 47 (.agg #[.int .u32 a, .int .u8 b]) (.agg #[.int .u32 c, .int .u8 d])).run Try.prog w = .ok (a == c && b == d) w := by
  have h1 : Try.prog.underlying 47 = some (.struct (Try.prog.fieldsOf 47)) := by kernel_rfl
  have h2 : Try.prog.stoodInHeld 47 = false := by kernel_rfl
  have h3 : (Try.prog.fieldsOf 47).toList = [⟨"At", 24, 0, false, "", "", 0⟩, ⟨"Byte", 5, 1, false, "", "", 4⟩] := by kernel_rfl
  have k1 : Try.prog.plainKey 24 = true := by kernel_rfl
  have k2 : Try.prog.plainKey 5 = true := by kernel_rfl
  have p0 := fun x y W => run_part_plain (P := Try.prog) (e := 24) k1 (xs := #[.int .u32 x, .int .u8 y]) (off := 0) (v := .int .u32 x) (w := W) rfl
  have p1 := fun x y W => run_part_plain (P := Try.prog) (e := 5) k2 (xs := #[.int .u32 x, .int .u8 y]) (off := 1) (v := .int .u8 y) (w := W) rfl
  rw [show (10000 : Nat) = 9999 + 1 from rfl, run_equalIn_struct _ _ _ _ _ h1 h2, h3]
  by_cases e1 : a = c <;> by_cases e2 : b = d <;>
    simp [Op.eqFields, p0, p1, run_equalIn_int _ _ _ .u32 .u32 _ _ Try.underlying24, run_equalIn_int _ _ _ .u8 .u8 _ _ Try.underlying5, e1, e2]

set_option maxRecDepth 100000 in
set_option maxHeartbeats 4000000 in
theorem same_is {w : World} {A B : Option Addr} {ca cb : Nat} {l m : List (Int × Int)} (h : CellsAt w A l) (h2 : CellsAt w B m) (hl : l.length ≤ ca) (hm : m.length ≤ cb) (hca : ca ≤ maxLen) (hcb : cb ≤ maxLen) :
    Calls Try.prog 17 #[.slice A l.length ca, .slice B m.length cb] w fun e w' => e = .returned (.bool (decide (l = m))) ∧ Below w.heap.size w w' := by
  have H := Lib.hid h
  have H2 := Lib.hid h2
  clear h h2
  have hsm : ca ≤ 9223372036854775807 := by simp only [maxLen] at hca; omega
  have hsn : cb ≤ 9223372036854775807 := by simp only [maxLen] at hcb; omega
  by_cases hn : l.length = m.length
  · obtain ⟨N, hN⟩ : ∃ N, l.length = N := ⟨_, rfl⟩
    have hM : m.length = N := hn ▸ hN
    rw [hN] at hl ⊢
    rw [hM] at hm ⊢
    have HN := Lib.hid (And.intro hN hM)
    clear hn hN hM
    go_enter Try.func17, Try.ntmps17
    go_wp2_with fail
    go_loopg [5] (N + 1) (fun k vi wr => ∃ i : Nat, vi = .int .i64 i ∧ i ≤ N ∧ N + 1 ≤ i + k ∧ Hid (l.take i = m.take i ∧ Below w.heap.size w wr))
    case atStart => exact ⟨0, rfl, Nat.zero_le _, by omega, Lib.hid ⟨rfl, Below.refl _ _⟩⟩
    case round =>
      obtain ⟨i, rfl, hi, hk, HI⟩ := hrel
      by_cases hlt : i < N
      · have hlti : (i : Int) < N := by omega
        obtain ⟨x, hx⟩ : ∃ x, l[i]? = some x := ⟨_, List.getElem?_eq_getElem (HN.out.1 ▸ hlt)⟩
        obtain ⟨y, hy⟩ : ∃ y, m[i]? = some y := ⟨_, List.getElem?_eq_getElem (HN.out.2 ▸ hlt)⟩
        obtain ⟨g, o, rfl, hg, e0, e1⟩ := (H.out.next HI.out.2).at_ i x hx
        obtain ⟨g2, o2, rfl, hg2, e2, e3⟩ := (H2.out.next HI.out.2).at_ i y hy
        have hic : (i : Int) < ca := by omega
        have hid : (i : Int) < cb := by omega
        have HT : Hid (l.take (i + 1) = m.take (i + 1) ↔ x = y) := Lib.hid (by
          rw [List.take_add_one, List.take_add_one, hx, hy, HI.out.1]
          simp)
        have HE : Hid (l = m → x = y) := Lib.hid fun q => by rw [q, hy] at hx; injection hx with hx; exact hx.symm
        clear hx hy
        obtain ⟨x1, x2⟩ := x
        obtain ⟨y1, y2⟩ := y
        have hce := cell_eq x1 x2 y1 y2
        by_cases hxy : x1 = y1 ∧ x2 = y2
        · obtain ⟨rfl, rfl⟩ := hxy
          simp only [beq_self_eq_true, Bool.and_self] at hce
          go_wp2_with fail
          go_quiet (fail)
          go_wp2_with fail
          have HX := Lib.hid (And.intro (HT.out.2 trivial) HI.out.2)
          go_roundg (N - i)
          case measure => omega
          case rel => exact ⟨i + 1, by go_num, by omega, by omega, Lib.hid ⟨HX.out.1, bdrew HX.out.2⟩⟩
        have hcb : (x1 == y1 && x2 == y2) = false := by simpa using hxy
        rw [hcb] at hce
        have HF : Hid (decide (l = m) = false) := Lib.hid (decide_eq_false fun q => hxy (by have := HE.out q; injection this with q1 q2; exact ⟨q1, q2⟩))
        go_wp2_with fail
        go_quiet (fail)
        go_wp2_with fail
        go_ret
        exact ⟨by rw [HF.out]; rfl, bdrew HI.out.2⟩
      · have hlti : ¬ (i : Int) < N := by omega
        obtain rfl : i = N := by omega
        have he : decide (l = m) = true := decide_eq_true (by
          have := HI.out.1
          rwa [List.take_of_length_le (by rw [HN.out.1]; exact Nat.le_refl _), List.take_of_length_le (by rw [HN.out.2]; exact Nat.le_refl _)] at this)
        have HE := Lib.hid he
        clear he
        go_wp2_with fail
        go_ret
        exact ⟨by rw [HE.out]; rfl, HI.out.2⟩
  · have hnb : ((l.length : Int) == m.length) = false := beq_eq_false_iff_ne.2 (by omega)
    have hne : decide (l = m) = false := decide_eq_false fun q => hn (by rw [q])
    rw [hne]
    go_enter Try.func17, Try.ntmps17
    go_wp2
    go_ret
    exact ⟨rfl, Below.refl _ _⟩
end Go.Proofs.Yticfffndciddgaa
