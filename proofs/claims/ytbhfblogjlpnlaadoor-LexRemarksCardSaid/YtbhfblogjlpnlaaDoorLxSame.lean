/-
  The contract of the reference's Same at two readings of the same lines: true. Condition: neither of them is long.
-/
import Derived.Test.YtbhfblogjlpnlaaDoorLxBase
import Derived.RegionTactic
import Derived.BigRegion
namespace Go.Proofs.YtbhfblogjlpnlaaDoor
open Go.RowKit

theorem neq_toks (k l c n s : Int) (t : ByteArray) (w : World) : (binOp .neq 39 (.agg #[.int .i64 k, .int .i64 l, .int .i64 c, .string t, .int .u32 n, .int .i64 s]) (.agg #[.int .i64 k, .int .i64 l, .int .i64 c, .string t, .int .u32 n, .int .i64 s])).run Tryd.prog w = .ok (.bool false) w := by
  have h := eql_toks k k l l c c n n s s t t w
  rw [run_eql_struct] at h
  rw [run_neq_struct]
  simp only [beq_self_eq_true, Bool.and_self] at h
  generalize (Op.equalIn 10000 39 (.agg #[.int .i64 k, .int .i64 l, .int .i64 c, .string t, .int .u32 n, .int .i64 s]) (.agg #[.int .i64 k, .int .i64 l, .int .i64 c, .string t, .int .u32 n, .int .i64 s])).run Tryd.prog w = r at *
  cases r <;> simp [Result.andThen] at h ⊢
  simp [h]

/-- A line of a reading: the slice that is its row, and its tokens' cells. -/
structure RowAt (w : World) (g i : Nat) (ps : List Piece) (A : Option Addr) (c : Nat) : Prop where
  row : w.cell? ⟨g, i, none⟩ = some (.slice A ps.length c)
  cap : ps.length ≤ c
  cell : ∀ (j : Nat) (p : Piece), ps[j]? = some p → ∃ b, A = some ⟨b, 0, none⟩ ∧ w.cell? ⟨b, j * 6, none⟩ = some (.int .i64 p.kind) ∧ w.cell? ⟨b, j * 6 + 1, none⟩ = some (.int .i64 ((i : Int) + 1)) ∧ w.cell? ⟨b, j * 6 + 2, none⟩ = some (.int .i64 (p.at_ + 1)) ∧ w.cell? ⟨b, j * 6 + 3, none⟩ = some (.string (ba p.text)) ∧ w.cell? ⟨b, j * 6 + 4, none⟩ = some (.int .u32 p.num) ∧ w.cell? ⟨b, j * 6 + 5, none⟩ = some (.int .i64 0)
theorem allCells_at (ps : List Piece) (ln : Int) : ∀ (j : Nat) (p : Piece) (t : Nat), ps[j]? = some p → t < 6 → (allCells ps ln)[j * 6 + t]? = (p.cells ln)[t]? := by
  induction ps with
  | nil => intro j p t h; simp at h
  | cons q ps ih =>
    intro j p t h ht
    have hc : allCells (q :: ps) ln = q.cells ln ++ allCells ps ln := rfl
    have hq : (q.cells ln).length = 6 := rfl
    cases j with
    | zero =>
      simp at h
      subst h
      rw [hc, List.getElem?_append_left (by omega), Nat.zero_mul, Nat.zero_add]
    | succ j =>
      simp at h
      rw [hc, List.getElem?_append_right (by omega), hq]
      have := ih j p t h ht
      rw [← this]
      congr 1
      omega
theorem row_at {w : World} {base g i : Nat} {us : List Value} {all : List (List Piece)} {ps : List Piece} (hl : LinesAt w base us all) (hr : ∀ (i : Nat) (u : Value), us[i]? = some u → w.cell? ⟨g, i, none⟩ = some u) (hi : all[i]? = some ps) : ∃ A c, RowAt w g i ps A c := by
  obtain ⟨u, hu, ho⟩ := hl.2 i ps hi
  rcases ho.2 with ⟨rfl, h0⟩ | ⟨gi, ci, cur, rfl, hg, _, hc, _⟩
  · have hp : ps = [] := List.eq_nil_of_length_eq_zero h0
    subst hp
    exact ⟨none, 0, hr i _ hu, Nat.le_refl _, fun j p h => by simp at h⟩
  · refine ⟨_, ci, hr i _ hu, hc, fun j p hp => ⟨gi, rfl, ?_⟩⟩
    have hadd : ∀ j, (⟨gi, 0, none⟩ : Addr).add j = ⟨gi, j, none⟩ := fun j => by unfold Addr.add; split <;> simp_all
    have hcell : ∀ t x, t < 6 → (p.cells ((i : Int) + 1))[t]? = some x → w.cell? ⟨gi, j * 6 + t, none⟩ = some x := by
      intro t x ht hx
      have := ho.cells (g := gi) rfl (j * 6 + t) x ((allCells_at ps _ j p t hp ht).trans hx)
      rwa [hadd] at this
    exact ⟨hcell 0 _ (by decide) rfl, hcell 1 _ (by decide) rfl, hcell 2 _ (by decide) rfl, hcell 3 _ (by decide) rfl, hcell 4 _ (by decide) rfl, hcell 5 _ (by decide) rfl⟩

/-- A reading of lines. -/
def Reading (w : World) (base : Nat) (v : Value) (all : List (List Piece)) : Prop := ∃ us, w.ownsRow base 36 1 v all.length us ∧ LinesAt w base us all
theorem Reading.below {w w' : World} {base : Nat} {v : Value} {all : List (List Piece)} (h : Reading w base v all) (hb : Below w.heap.size w w') : Reading w' base v all := by
  obtain ⟨us, h1, h2⟩ := h
  exact ⟨us, own_below h1 hb, h2.below hb⟩
theorem Reading.form {w : World} {base : Nat} {v : Value} {all : List (List Piece)} (h : Reading w base v all) : ∃ A c, v = .slice A all.length c ∧ all.length ≤ c ∧ ∀ (i : Nat) (ps : List Piece), all[i]? = some ps → ∃ g B d, A = some ⟨g, 0, none⟩ ∧ RowAt w g i ps B d := by
  obtain ⟨us, h1, h2⟩ := h
  rcases h1.2 with ⟨rfl, h0⟩ | ⟨g, cap, cur, rfl, hg, hh, hc, hm, hs, ht⟩
  · refine ⟨none, 0, by rw [h0], by omega, fun i ps hi => ?_⟩
    rw [List.eq_nil_of_length_eq_zero h0] at hi
    simp at hi
  · refine ⟨some ⟨g, 0, none⟩, cap, rfl, hc, fun i ps hi => ?_⟩
    have hadd : ∀ j, (⟨g, 0, none⟩ : Addr).add j = ⟨g, j, none⟩ := fun j => by unfold Addr.add; split <;> simp_all
    obtain ⟨B, d, hB⟩ := row_at h2 (fun i u hu => by have := h1.cells (g := g) rfl i u hu; rwa [hadd] at this) hi
    exact ⟨g, B, d, rfl, hB⟩

set_option maxRecDepth 100000 in
set_option maxHeartbeats 4000000 in
theorem same_any (b1 b2 : Nat) (v1 v2 : Value) (all : List (List Piece)) (w : World) (hl : all.length ≤ 70000) (hp : ∀ ps ∈ all, ps.length ≤ 70000) (h1 : Reading w b1 v1 all) (h2 : Reading w b2 v2 all) :
    Calls Tryd.prog 14 #[v1, v2] w fun e w' => e = .returned (.bool true) ∧ Drew w w' := by
  obtain ⟨A1, c1, rfl, hc1, hr1⟩ := h1.form
  obtain ⟨A2, c2, rfl, hc2, hr2⟩ := h2.form
  have HR1 := Lib.hid hr1
  have HR2 := Lib.hid hr2
  have HP := Lib.hid hp
  have heq := neq_toks
  clear h1 h2 hr1 hr2 hp
  go_enter Tryd.func14, Tryd.ntmps14
  go_wp2_with fail
  go_loopw [5] (fun i wr => ∃ k : Nat, k ≤ all.length ∧ i = .int .i64 k ∧ Hid (Drew w wr)) (fun i _ => all.length - (intOf i).toNat)
  case atStart => exact ⟨0, Nat.zero_le _, rfl, Lib.hid (Drew.start _)⟩
  case round =>
    obtain ⟨k, hk, rfl, HD⟩ := hrel
    by_cases hlt : k < all.length
    · have hki : (k : Int) < all.length := by omega
      have hks : all[k]? = some all[k] := List.getElem?_eq_getElem hlt
      have hpl := HP.out all[k] (List.getElem_mem _)
      generalize all[k] = ps at *
      obtain ⟨g1, B1, d1, rfl, hB1⟩ := HR1.out k ps hks
      obtain ⟨g2, B2, d2, rfl, hB2⟩ := HR2.out k ps hks
      have hkc1 : (k : Int) < c1 := by omega
      have hkc2 : (k : Int) < c2 := by omega
      have r1 := HD.out.old hB1.row
      have r2 := HD.out.old hB2.row
      clear hks
      go_wp2_with fail
      go_region
      all_goals (try go_wp2_with fail)
      go_loopw [6] (fun j wx => ∃ m : Nat, m ≤ ps.length ∧ j = .int .i64 m ∧ Hid (Drew w wx)) (fun j _ => ps.length - (intOf j).toNat)
      case atStart => exact ⟨0, Nat.zero_le _, rfl, Lib.hid (HD.out.trans ⟨1, rfl⟩)⟩
      case round =>
        obtain ⟨m, hm, rfl, HX⟩ := hrel
        have x1 := HX.out.old hB1.row
        have x2 := HX.out.old hB2.row
        by_cases hmt : m < ps.length
        · have hmi : (m : Int) < ps.length := by omega
          obtain ⟨a1, rfl, e0, e1, e2, e3, e4, e5⟩ := hB1.cell m ps[m] (List.getElem?_eq_getElem hmt)
          obtain ⟨a2, rfl, f0, f1, f2, f3, f4, f5⟩ := hB2.cell m ps[m] (List.getElem?_eq_getElem hmt)
          have hmd1 : (m : Int) < d1 := by have := hB1.cap; omega
          have hmd2 : (m : Int) < d2 := by have := hB2.cap; omega
          replace e0 := HX.out.old e0
          replace e1 := HX.out.old e1
          replace e2 := HX.out.old e2
          replace e3 := HX.out.old e3
          replace e4 := HX.out.old e4
          replace e5 := HX.out.old e5
          replace f0 := HX.out.old f0
          replace f1 := HX.out.old f1
          replace f2 := HX.out.old f2
          replace f3 := HX.out.old f3
          replace f4 := HX.out.old f4
          replace f5 := HX.out.old f5
          generalize ps[m] = tk at *
          clear hB1 hB2 r1 r2
          go_wp2_with fail
          go_region
          all_goals (try go_wp2_with fail)
          exact ⟨⟨m + 1, by omega, by go_num, Lib.hid (HX.out.trans ⟨1, rfl⟩)⟩, by simp [intOf]; omega⟩
        · obtain rfl : m = ps.length := by omega
          go_wp2_with fail
          go_roundw
          case rel => exact ⟨k + 1, by omega, by go_num, HX⟩
          case measure => simp [intOf]; omega
    · obtain rfl : k = all.length := by omega
      go_wp2_with fail
      go_ret
      exact ⟨rfl, HD.out⟩
end Go.Proofs.YtbhfblogjlpnlaaDoor
