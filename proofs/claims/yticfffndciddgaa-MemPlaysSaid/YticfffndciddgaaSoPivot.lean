/-
  The contracts of slices.order2Ordered, medianOrdered, medianAdjacentOrdered and choosePivotOrdered at uint32: which places they may tell. Condition: the row lies in the memory as SoBase says; the count of exchanges is small.
-/
import Derived.Test.YticfffndciddgaaSoBreak
namespace Go.Proofs.Yticfffndciddgaa
open Go.RowKit Go.Sort

/-- The row, and a cell that counts. -/
structure SrtC (B : Nat) (w0 : World) (g o : Nat) (d : Array Int) (r s : Nat) (w : World) : Prop where
  srt : Srt B w0 g o d w
  rc : w.cell? ⟨r, 0, none⟩ = some (.int .i64 s)
  rf : w.frozen? ⟨r, 0, none⟩ = false
  rB : B ≤ r
  rg : r ≠ g
theorem SrtC.drew {B g o r s : Nat} {w0 w : World} {d : Array Int} (h : SrtC B w0 g o d r s w) (n : Nat) : SrtC B w0 g o d r s (w.drewN n) := ⟨h.srt.drew n, h.rc, h.rf, h.rB, h.rg⟩
theorem SrtC.set {B g o r s : Nat} {w0 w : World} {d : Array Int} (h : SrtC B w0 g o d r s w) (s' : Nat) : SrtC B w0 g o d r s' (w.setCell ⟨r, 0, none⟩ (.int .i64 s')) :=
  ⟨h.srt.setOther h.rB h.rg _, World.cell?_setCell_same w _ _ h.rc, by simpa using h.rf, h.rB, h.rg⟩

set_option maxRecDepth 100000 in
set_option maxHeartbeats 2000000 in
theorem order2_is {B g o r s : Nat} {w0 w : World} {d : Array Int} (h : SrtC B w0 g o d r s w) (hs : s ≤ 100) (cap a b : Nat) (ha : a < d.size) (hb : b < d.size) (hsz : d.size < 4611686018427387904) :
    Calls Try.prog 53 #[.slice (some ⟨g, o, none⟩) d.size cap, .int .i64 a, .int .i64 b, .pointer (some ⟨r, 0, none⟩)] w fun e w' =>
      ∃ (x y s' : Nat), e = .returned (.tuple #[.int .i64 x, .int .i64 y]) ∧ (x = a ∧ y = b ∨ x = b ∧ y = a) ∧ s' ≤ s + 1 ∧ SrtC B w0 g o d r s' w' := by
  obtain ⟨G, hG⟩ : ∃ G : Nat → Int, ∀ t, G t = d[t]! := ⟨fun t => d[t]!, fun _ => rfl⟩
  have hcw : ∀ t, t < d.size → w.cell? ⟨g, o + t, none⟩ = some (.int .u32 (G t)) := fun t ht => by rw [hG]; exact h.srt.cell t ht
  have H := Lib.hid h
  have hrc := h.rc
  have hrf := h.rf
  clear h hG
  go_enter Try.func53, Try.ntmps53
  go_wp2
  go_quiet (first | (go_at_call 42; refine Calls.quiet_of_same (less_is _ _ _)))
  go_wp2
  · generalize hwq : w.drewN nq = wq
    have hrc2 : wq.cell? ⟨r, 0, none⟩ = some (.int .i64 s) := by rw [← hwq]; exact hrc
    have hrf2 : wq.frozen? ⟨r, 0, none⟩ = false := by rw [← hwq]; exact hrf
    have HQ : Hid (SrtC B w0 g o d r s wq) := Lib.hid (hwq ▸ H.out.drew _)
    clear hwq hrc hrf hcw
    go_wp2
    go_ret2
    exact ⟨b, a, s + 1, rfl, .inr ⟨rfl, rfl⟩, Nat.le_refl _, HQ.out.set (s + 1)⟩
  · go_ret2
    exact ⟨a, b, s, rfl, .inl ⟨rfl, rfl⟩, Nat.le_succ _, H.out.drew _⟩

set_option maxRecDepth 100000 in
set_option maxHeartbeats 2000000 in
theorem median_is {B g o r s : Nat} {w0 w : World} {d : Array Int} (h : SrtC B w0 g o d r s w) (hs : s ≤ 90) (cap a b c : Nat) (ha : a < d.size) (hb : b < d.size) (hc : c < d.size) (hsz : d.size < 4611686018427387904) :
    Calls Try.prog 51 #[.slice (some ⟨g, o, none⟩) d.size cap, .int .i64 a, .int .i64 b, .int .i64 c, .pointer (some ⟨r, 0, none⟩)] w fun e w' =>
      ∃ (x s' : Nat), e = .returned (.int .i64 x) ∧ (x = a ∨ x = b ∨ x = c) ∧ s' ≤ s + 3 ∧ SrtC B w0 g o d r s' w' := by
  have H := Lib.hid h
  clear h
  go_enter Try.func51, Try.ntmps51
  go_wp2_with fail
  refine (order2_is H.out (by omega) cap a b ha hb hsz).mono ?_
  rintro e w1 ⟨x1, y1, s1, rfl, h1, hs1, H1⟩
  have hx1 : x1 < d.size := by omega
  have hy1 : y1 < d.size := by omega
  have HH1 := Lib.hid (And.intro h1 H1)
  clear h1 H1
  go_wp2_with fail
  refine (order2_is HH1.out.2 (by omega) cap y1 c hy1 hc hsz).mono ?_
  rintro e w2 ⟨x2, y2, s2, rfl, h2, hs2, H2⟩
  have hx2 : x2 < d.size := by omega
  have HH2 := Lib.hid (And.intro h2 H2)
  clear h2 H2
  go_wp2_with fail
  refine (order2_is HH2.out.2 (by omega) cap x1 x2 hx1 hx2 hsz).mono ?_
  rintro e w3 ⟨x3, y3, s3, rfl, h3, hs3, H3⟩
  have HH3 := Lib.hid (And.intro h3 H3)
  clear h3 H3
  go_wp2_with fail
  go_ret
  refine ⟨y3, s3, rfl, ?_, by omega, HH3.out.2⟩
  have k1 := HH1.out.1
  have k2 := HH2.out.1
  have k3 := HH3.out.1
  omega

set_option maxRecDepth 100000 in
set_option maxHeartbeats 2000000 in
theorem medadj_is {B g o r s : Nat} {w0 w : World} {d : Array Int} (h : SrtC B w0 g o d r s w) (hs : s ≤ 90) (cap a : Nat) (ha : 1 ≤ a) (hb : a + 1 < d.size) (hsz : d.size < 4611686018427387904) :
    Calls Try.prog 50 #[.slice (some ⟨g, o, none⟩) d.size cap, .int .i64 a, .pointer (some ⟨r, 0, none⟩)] w fun e w' =>
      ∃ (x s' : Nat), e = .returned (.int .i64 x) ∧ a ≤ x + 1 ∧ x ≤ a + 1 ∧ s' ≤ s + 3 ∧ SrtC B w0 g o d r s' w' := by
  obtain ⟨a', rfl⟩ : ∃ a', a = a' + 1 := ⟨a - 1, by omega⟩
  have hc := median_is h hs cap a' (a' + 1) (a' + 1 + 1) (by omega) (by omega) (by omega) hsz
  have HC := Lib.hid hc
  have hq : ((a' : Int) + 1 - 1) = (a' : Int) := by omega
  clear h hc
  go_enter Try.func50, Try.ntmps50
  go_wp2_with fail
  refine HC.out.mono ?_
  rintro e w1 ⟨x1, s1, rfl, h1, hs1, H1⟩
  have HH1 := Lib.hid (And.intro h1 H1)
  clear h1 H1
  go_wp2_with fail
  go_ret
  exact ⟨x1, s1, rfl, by have := HH1.out.1; omega, by have := HH1.out.1; omega, hs1, HH1.out.2⟩

set_option maxRecDepth 100000 in
set_option maxHeartbeats 4000000 in
theorem pivot_is {B g o : Nat} {w0 w : World} {d : Array Int} (h : Srt B w0 g o d w) (cap a b : Nat) (hab : a + 8 ≤ b) (hb : b ≤ d.size) (hsz : d.size < 4611686018427387904) :
    Calls Try.prog 39 #[.slice (some ⟨g, o, none⟩) d.size cap, .int .i64 a, .int .i64 b] w fun e w' =>
      ∃ (p : Nat) (hint : Int), e = .returned (.tuple #[.int .i64 p, .int .i64 hint]) ∧ a ≤ p ∧ p < b ∧ Srt B w0 g o d w' := by
  obtain ⟨n, rfl⟩ : ∃ n, b = a + n := ⟨b - a, by omega⟩
  have hn8 : (8 : Int) ≤ n := by omega
  have hC : SrtC B w0 g o d w.heap.size 0 (w.alloc (.cells #[.int .i64 0] 3)) :=
    ⟨h.next ((Below.refl _ _).alloc (Nat.le_refl _) _), by simp, by simp, by have h1 := h.lt; have h2 := h.base; omega, fun e => by have := h.lt; omega⟩
  have HC := Lib.hid hC
  clear hC h
  have hq : (a : Int) + (n : Int) - (a : Int) = (n : Int) := by omega
  have hdv : (n : Int).tdiv 4 = ((n / 4 : Nat) : Int) := by rw [Int.tdiv_eq_ediv_of_nonneg (by omega)]; omega
  go_enter Try.func39, Try.ntmps39
  by_cases h50 : 50 ≤ n
  · have h50i : (50 : Int) ≤ n := by omega
    have hn4 : n / 4 * 3 + 2 ≤ n := by omega
    have hn12 : 12 ≤ n / 4 := by omega
    have hc1 := medadj_is HC.out (by omega) cap (a + n / 4) (by omega) (by omega) hsz
    push_cast at hc1
    have HC1 := Lib.hid hc1
    clear hc1
    go_wp2_with fail
    refine HC1.out.mono ?_
    rintro e w1 ⟨x1, s1, rfl, l1, u1, hs1, H1⟩
    have HH1 := Lib.hid (And.intro (And.intro l1 u1) H1)
    have hx1 : x1 < a + n := by omega
    have hy1 : a ≤ x1 := by omega
    clear l1 u1 H1
    have hc2 := medadj_is HH1.out.2 (by omega) cap (a + n / 4 * 2) (by omega) (by omega) hsz
    push_cast at hc2
    have HC2 := Lib.hid hc2
    clear hc2
    go_wp2_with fail
    refine HC2.out.mono ?_
    rintro e w2 ⟨x2, s2, rfl, l2, u2, hs2, H2⟩
    have HH2 := Lib.hid (And.intro (And.intro l2 u2) H2)
    have hx2 : x2 < a + n := by omega
    have hy2 : a ≤ x2 := by omega
    clear l2 u2 H2
    have hc3 := medadj_is HH2.out.2 (by omega) cap (a + n / 4 * 3) (by omega) (by omega) hsz
    push_cast at hc3
    have HC3 := Lib.hid hc3
    clear hc3
    go_wp2_with fail
    refine HC3.out.mono ?_
    rintro e w3 ⟨x3, s3, rfl, l3, u3, hs3, H3⟩
    have HH3 := Lib.hid (And.intro (And.intro l3 u3) H3)
    have hx3 : x3 < a + n := by omega
    have hy3 : a ≤ x3 := by omega
    clear l3 u3 H3
    clear hdv hn4 hn12
    go_wp2_with fail
    refine (median_is HH3.out.2 (by omega) cap x1 x2 x3 (by omega) (by omega) (by omega) hsz).mono ?_
    rintro e w4 ⟨y, s4, rfl, h4, hs4, H4⟩
    have HH4 := Lib.hid (And.intro h4 H4)
    have hrc := H4.rc
    clear h4 H4
    go_wp2_with fail
    all_goals
      go_ret2
      exact ⟨y, _, rfl, by have := HH4.out.1; omega, by have := HH4.out.1; omega, HH4.out.2.srt⟩
  · have h50i : ¬ (50 : Int) ≤ n := by omega
    have hn4 : n / 4 * 3 < n := by omega
    have hc1 := median_is HC.out (by omega) cap (a + n / 4) (a + n / 4 * 2) (a + n / 4 * 3) (by omega) (by omega) (by omega) hsz
    push_cast at hc1
    have HC1 := Lib.hid hc1
    clear hc1
    go_wp2_with fail
    refine HC1.out.mono ?_
    rintro e w4 ⟨y, s4, rfl, h4, hs4, H4⟩
    have HH4 := Lib.hid (And.intro h4 H4)
    have hrc := H4.rc
    clear h4 H4
    go_wp2_with fail
    all_goals
      go_ret2
      exact ⟨y, _, rfl, by have := HH4.out.1; omega, by have := HH4.out.1; omega, HH4.out.2.srt⟩
end Go.Proofs.Yticfffndciddgaa
