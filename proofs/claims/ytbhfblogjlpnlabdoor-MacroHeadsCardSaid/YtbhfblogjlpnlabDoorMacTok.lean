/-
  The contracts of the program's isMark and partEnd. Conditions: the tokens' cells lie in the memory; there are at most 100000 of them.
-/
import Derived.Test.YtbhfblogjlpnlabDoorProg
import Derived.Test.YtbhfblogjlpnlabDoorMacSpec
import Derived.WalkKit
import Derived.Below
import Derived.Lib.Hide
import Derived.BigQuiet
namespace Go.Proofs.YtbhfblogjlpnlabDoor
open Go.RowKit

/-- A token, of any fields. -/
structure Tk6 where
  kind : Int
  line : Int
  col : Int
  text : ByteArray
  num : Int
  spare : Int
def Tk6.cells (t : Tk6) : List Value := [.int .i64 t.kind, .int .i64 t.line, .int .i64 t.col, .string t.text, .int .u32 t.num, .int .i64 t.spare]

/-- A slice of tokens. -/
def Toks (w : World) (v : Value) (ts : List Tk6) : Prop := (∃ (A : Option Addr) (c : Nat), v = .slice A 0 c ∧ c ≤ maxLen ∧ ts = []) ∨ ∃ (b o c : Nat), v = .slice (some ⟨b, o, none⟩) ts.length c ∧ ts.length ≤ c ∧ c ≤ maxLen ∧ b < w.heap.size ∧ ∀ (i : Nat) (t : Tk6), ts[i]? = some t → ∀ (j : Nat) (u : Value), t.cells[j]? = some u → w.cell? ⟨b, o + i * 6 + j, none⟩ = some u
theorem Toks.below {w w' : World} {v : Value} {ts : List Tk6} (h : Toks w v ts) (hb : Below w.heap.size w w') : Toks w' v ts :=
  h.imp id fun ⟨b, o, c, h1, h2, h3, h4, h5⟩ => ⟨b, o, c, h1, h2, h3, Nat.lt_of_lt_of_le h4 hb.size, fun i t hi j u hj => (hb.cell (p := ⟨b, o + i * 6 + j, none⟩) h4).trans (h5 i t hi j u hj)⟩

/-- Which mark a token is that counts: 1 opens, 2 closes, 3 parts. -/
def Tk6.isM (t : Tk6) (s : ByteArray) : Bool := t.kind == 7 && t.text.toList == s.toList
def Tk6.mk3 (t : Tk6) : Nat := if t.isM ⟨#[40]⟩ then 1 else if t.isM ⟨#[41]⟩ then 2 else if t.isM ⟨#[44]⟩ then 3 else 0

set_option maxRecDepth 100000 in
set_option maxHeartbeats 1000000 in
theorem mark_is (t : Tk6) (s : ByteArray) (w : World) : Calls Tryd.prog 72 #[.agg #[.int .i64 t.kind, .int .i64 t.line, .int .i64 t.col, .string t.text, .int .u32 t.num, .int .i64 t.spare], .string s] w fun e w' => e = .returned (.bool (t.isM s)) ∧ Below w.heap.size w w' := by
  go_enter Tryd.func72, Tryd.ntmps72
  have HBA : Hid (∀ o, Below w.heap.size w (w.alloc o)) := Lib.hid (fun o => (Below.refl _ _).alloc (Nat.le_refl _) o)
  by_cases hk : t.kind = 7
  · have k1 : (t.kind == 7) = true := by rw [hk]; rfl
    have hr : t.isM s = (t.text.toList == s.toList) := by unfold Tk6.isM; rw [k1, Bool.true_and]
    clear hk
    go_wp2_with fail
    go_ret
    exact ⟨by rw [hr]; rfl, HBA.out _⟩
  · have k1 : (t.kind == 7) = false := beq_eq_false_iff_ne.2 hk
    have hr : t.isM s = false := by unfold Tk6.isM; rw [k1, Bool.false_and]
    clear hk
    go_wp2_with fail
    go_ret
    exact ⟨by rw [hr]; rfl, HBA.out _⟩
theorem Toks.form {w : World} {v : Value} {ts : List Tk6} (h : Toks w v ts) : ∃ A c, v = .slice A ts.length c ∧ ts.length ≤ c ∧ c ≤ maxLen ∧ ∀ (i : Nat) (t : Tk6), ts[i]? = some t → ∃ b o, A = some ⟨b, o, none⟩ ∧ ∀ W, Below w.heap.size w W → W.cell? ⟨b, o + i * 6, none⟩ = some (.int .i64 t.kind) ∧ W.cell? ⟨b, o + i * 6 + 1, none⟩ = some (.int .i64 t.line) ∧ W.cell? ⟨b, o + i * 6 + 2, none⟩ = some (.int .i64 t.col) ∧ W.cell? ⟨b, o + i * 6 + 3, none⟩ = some (.string t.text) ∧ W.cell? ⟨b, o + i * 6 + 4, none⟩ = some (.int .u32 t.num) ∧ W.cell? ⟨b, o + i * 6 + 5, none⟩ = some (.int .i64 t.spare) := by
  rcases h with ⟨A, c, rfl, hc, rfl⟩ | ⟨b, o, c, rfl, h2, h3, h4, h5⟩
  · exact ⟨A, c, rfl, Nat.zero_le _, hc, fun i t h => by simp at h⟩
  · refine ⟨_, c, rfl, h2, h3, fun i t hi => ⟨b, o, rfl, fun W hW => ?_⟩⟩
    have hc : ∀ (j : Nat) (u : Value), t.cells[j]? = some u → W.cell? ⟨b, o + i * 6 + j, none⟩ = some u := fun j u hj => (hW.cell (p := ⟨b, o + i * 6 + j, none⟩) h4).trans (h5 i t hi j u hj)
    exact ⟨hc 0 _ rfl, hc 1 _ rfl, hc 2 _ rfl, hc 3 _ rfl, hc 4 _ rfl, hc 5 _ rfl⟩

theorem partEnd_cons (m : Tk6 → Nat) (o : Nat) (t : Tk6) (r : List Tk6) : partEnd m o (t :: r) = if m t = 1 then 1 + partEnd m (o + 1) r else if m t = 2 then 1 + partEnd m (o - 1) r else if m t = 3 ∧ o = 0 then 0 else 1 + partEnd m o r := rfl

set_option maxRecDepth 100000 in
set_option maxHeartbeats 4000000 in
theorem partEnd_is (ts : List Tk6) (v : Value) (at_ : Nat) (w : World) (hv : Toks w v ts) (hat : at_ ≤ ts.length) (hn : ts.length ≤ 100000) : Calls Tryd.prog 49 #[v, .int .i64 at_] w fun e w' => e = .returned (.int .i64 ((at_ + partEnd Tk6.mk3 0 (ts.drop at_) : Nat) : Int)) ∧ Below w.heap.size w w' := by
  obtain ⟨A, c, rfl, hc, hcm, hcell⟩ := hv.form
  have HCELL := Lib.hid hcell
  clear hv hcell
  go_enter Tryd.func49, Tryd.ntmps49
  go_wp2_with fail
  go_loopw [5, 6] (fun o i wr => ∃ (k n : Nat), k ≤ ts.length ∧ n ≤ k ∧ o = .int .i64 n ∧ i = .int .i64 k ∧ Hid (at_ + partEnd Tk6.mk3 0 (ts.drop at_) = k + partEnd Tk6.mk3 n (ts.drop k)) ∧ Hid (Below w.heap.size w wr)) (fun _ i _ => ts.length - (intOf i).toNat)
  case atStart => exact ⟨at_, 0, hat, Nat.zero_le _, rfl, rfl, Lib.hid rfl, Lib.hid (Below.refl _ _)⟩
  case round =>
    obtain ⟨k, n, hk, hnk, rfl, rfl, HP, HB⟩ := hrel
    by_cases hlt : k < ts.length
    · have hki : (k : Int) < ts.length := by omega
      have hkc : (k : Int) < c := by omega
      have hni : (n : Int) ≤ 100000 := by omega
      obtain ⟨t, ht⟩ : ∃ t, ts[k]? = some t := ⟨_, List.getElem?_eq_getElem hlt⟩
      obtain ⟨b, o, rfl, hcs⟩ := HCELL.out k t ht
      have HC := Lib.hid (fun W (hW : Below wr.heap.size wr W) => hcs W (HB.out.trans (hW.mono HB.out.size)))
      have hdr : ts.drop k = t :: ts.drop (k + 1) := by
        rw [List.drop_eq_getElem_cons hlt]
        rw [List.getElem?_eq_getElem hlt] at ht
        injection ht with ht
        rw [ht]
      have hstep := partEnd_cons Tk6.mk3 n t (ts.drop (k + 1))
      rw [← hdr] at hstep
      obtain ⟨e0, e1, e2, e3, e4, e5⟩ := HC.out wr (Below.refl _ _)
      have HST := Lib.hid hstep
      clear hcs hdr hstep ht
      obtain ⟨wo, rfl⟩ : ∃ wo : World, wo = wr := ⟨_, rfl⟩
      go_wp2_with fail
      refine (mark_is t ⟨#[40]⟩ _).mono ?_
      rintro e w1 ⟨rfl, hb1⟩
      have HB1 := Lib.hid hb1
      obtain ⟨a0, a1, a2, a3, a4, a5⟩ := HC.out w1 hb1
      clear hb1 e0 e1 e2 e3 e4 e5
      by_cases m1 : t.isM ⟨#[40]⟩ = true
      · have HN : Hid (at_ + partEnd Tk6.mk3 0 (ts.drop at_) = k + 1 + partEnd Tk6.mk3 (n + 1) (ts.drop (k + 1))) := Lib.hid (by
          rw [HP.out, HST.out, if_pos (by unfold Tk6.mk3; rw [if_pos m1])]
          omega)
        have HBN := Lib.hid (HB.out.trans (HB1.out.mono HB.out.size))
        clear a0 a1 a2 a3 a4 a5
        go_wp2_with fail
        go_roundw
        case rel => exact ⟨k + 1, n + 1, by omega, by omega, by go_num, by go_num, HN, HBN⟩
        case measure => simp [intOf]; omega
      · have m1f : t.isM ⟨#[40]⟩ = false := by simpa using m1
        clear m1
        go_wp2_with fail
        refine (mark_is t ⟨#[41]⟩ _).mono ?_
        rintro e w2 ⟨rfl, hb2⟩
        have HB2 := Lib.hid (HB1.out.trans (hb2.mono HB1.out.size))
        obtain ⟨d0, d1, d2, d3, d4, d5⟩ := HC.out w2 HB2.out
        clear hb2 a0 a1 a2 a3 a4 a5
        by_cases m2 : t.isM ⟨#[41]⟩ = true
        · have HN : Hid (at_ + partEnd Tk6.mk3 0 (ts.drop at_) = k + 1 + partEnd Tk6.mk3 (n - 1) (ts.drop (k + 1))) := Lib.hid (by
            have hm : t.mk3 = 2 := by unfold Tk6.mk3; rw [if_neg (by rw [m1f]; decide), if_pos m2]
            rw [HP.out, HST.out, hm, if_neg (by decide), if_pos rfl]
            omega)
          have HBN := Lib.hid (HB.out.trans (HB2.out.mono HB.out.size))
          clear d0 d1 d2 d3 d4 d5
          go_wp2_with fail
          go_roundw
          case rel => exact ⟨k + 1, n - 1, by omega, by omega, by congr 1; omega, by go_num, HN, HBN⟩
          case measure => simp [intOf]; omega
        · have m2f : t.isM ⟨#[41]⟩ = false := by simpa using m2
          clear m2
          go_wp2_with fail
          refine (mark_is t ⟨#[44]⟩ _).mono ?_
          rintro e w3 ⟨rfl, hb3⟩
          have HB3 := Lib.hid (HB2.out.trans (hb3.mono HB2.out.size))
          have HBN := Lib.hid (HB.out.trans (HB3.out.mono HB.out.size))
          clear hb3 d0 d1 d2 d3 d4 d5
          have hgo : ¬ (t.isM ⟨#[44]⟩ = true ∧ n = 0) → at_ + partEnd Tk6.mk3 0 (ts.drop at_) = k + 1 + partEnd Tk6.mk3 n (ts.drop (k + 1)) := fun h => by
            have hm : t.mk3 = if t.isM ⟨#[44]⟩ = true then 3 else 0 := by unfold Tk6.mk3; rw [if_neg (by rw [m1f]; decide), if_neg (by rw [m2f]; decide)]
            rw [HP.out, HST.out, hm]
            by_cases m3 : t.isM ⟨#[44]⟩ = true
            · rw [if_pos m3, if_neg (by decide), if_neg (by decide), if_neg (fun g => h ⟨m3, g.2⟩)]
              omega
            · rw [if_neg m3, if_neg (by decide), if_neg (by decide), if_neg (fun g => absurd g.1 (by decide))]
              omega
          have HGO := Lib.hid hgo
          clear hgo
          by_cases m3 : t.isM ⟨#[44]⟩ = true
          · by_cases hn0 : n = 0
            · subst hn0
              have HE : Hid (at_ + partEnd Tk6.mk3 0 (ts.drop at_) = k) := Lib.hid (by
                have hm : t.mk3 = 3 := by unfold Tk6.mk3; rw [if_neg (by rw [m1f]; decide), if_neg (by rw [m2f]; decide), if_pos m3]
                rw [HP.out, HST.out, hm, if_neg (by decide), if_neg (by decide), if_pos ⟨rfl, rfl⟩]
                omega)
              go_wp2_with fail
              go_ret
              exact ⟨by rw [HE.out]; rfl, HBN.out⟩
            · have hz : ((n : Int) == 0) = false := beq_eq_false_iff_ne.2 (by omega)
              have HN := Lib.hid (HGO.out fun h => hn0 h.2)
              go_wp2_with fail
              go_roundw
              case rel => exact ⟨k + 1, n, by omega, by omega, rfl, by go_num, HN, HBN⟩
              case measure => simp [intOf]; omega
          · have m3f : t.isM ⟨#[44]⟩ = false := by simpa using m3
            have HN := Lib.hid (HGO.out fun h => m3 h.1)
            clear m3
            go_wp2_with fail
            go_roundw
            case rel => exact ⟨k + 1, n, by omega, by omega, rfl, by go_num, HN, HBN⟩
            case measure => simp [intOf]; omega
    · obtain rfl : k = ts.length := by omega
      have HE : Hid (at_ + partEnd Tk6.mk3 0 (ts.drop at_) = ts.length) := Lib.hid (by rw [HP.out, List.drop_length]; rfl)
      go_wp2_with fail
      go_ret
      exact ⟨by rw [HE.out]; rfl, HB.out⟩
/-! Cells of tokens. -/
def cellsOf (ps : List Tk6) : List Value := ps.flatMap Tk6.cells
theorem cellsOf_len (ps : List Tk6) : (cellsOf ps).length = ps.length * 6 := by
  induction ps with
  | nil => rfl
  | cons t ps ih =>
    have h : cellsOf (t :: ps) = t.cells ++ cellsOf ps := rfl
    have h6 : t.cells.length = 6 := rfl
    rw [h, List.length_append, ih, List.length_cons, h6]
    omega
theorem cellsOf_app (ps qs : List Tk6) : cellsOf (ps ++ qs) = cellsOf ps ++ cellsOf qs := by simp [cellsOf]
theorem cellsOf_one (ps : List Tk6) : ∀ u ∈ cellsOf ps, u.oneCell' = true := by
  intro u hu
  obtain ⟨t, _, ht⟩ := List.mem_flatMap.1 hu
  simp [Tk6.cells] at ht
  rcases ht with rfl | rfl | rfl | rfl | rfl | rfl <;> rfl
theorem cellsOf_seg (ts : List Tk6) (a e : Nat) (ha : a + e ≤ ts.length) : ∀ q u, (cellsOf ((ts.drop a).take e))[q]? = some u → (cellsOf ts)[a * 6 + q]? = some u := by
  intro q u hu
  have hq : q < e * 6 := by
    have := (List.getElem?_eq_some_iff.1 hu).1
    rw [cellsOf_len, List.length_take, List.length_drop] at this
    omega
  have h : ts = ts.take a ++ ((ts.drop a).take e ++ (ts.drop a).drop e) := by rw [List.take_append_drop, List.take_append_drop]
  rw [h, cellsOf_app, cellsOf_app, List.getElem?_append_right (by rw [cellsOf_len, List.length_take]; omega), cellsOf_len, List.length_take, Nat.min_eq_left (by omega), Nat.add_sub_cancel_left, List.getElem?_append_left (by rw [cellsOf_len, List.length_take, List.length_drop]; omega)]
  exact hu
theorem cellsOf_at : ∀ (ts : List Tk6) (w : World) (b o : Nat), (∀ (i : Nat) (t : Tk6), ts[i]? = some t → ∀ (j : Nat) (u : Value), t.cells[j]? = some u → w.cell? ⟨b, o + i * 6 + j, none⟩ = some u) → ∀ q u, (cellsOf ts)[q]? = some u → w.cell? ⟨b, o + q, none⟩ = some u
  | [], _, _, _, _, q, u, hu => by simp [cellsOf] at hu
  | t :: ts, w, b, o, h, q, u, hu => by
    have hc : cellsOf (t :: ts) = t.cells ++ cellsOf ts := rfl
    have h6 : t.cells.length = 6 := rfl
    rw [hc] at hu
    rcases Nat.lt_or_ge q 6 with hq | hq
    · rw [List.getElem?_append_left (by rw [h6]; exact hq)] at hu
      have := h 0 t rfl q u hu
      rwa [Nat.zero_mul, Nat.add_zero] at this
    · rw [List.getElem?_append_right (by rw [h6]; exact hq), h6] at hu
      have := cellsOf_at ts w b (o + 6) (fun i s hi j u hj => by
        have := h (i + 1) s (by simpa using hi) j u hj
        rwa [show o + (i + 1) * 6 + j = o + 6 + i * 6 + j by omega] at this) (q - 6) u hu
      rwa [show o + 6 + (q - 6) = o + q by omega] at this
end Go.Proofs.YtbhfblogjlpnlabDoor
