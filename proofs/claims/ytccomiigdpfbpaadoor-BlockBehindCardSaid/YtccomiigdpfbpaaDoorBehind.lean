/-
  The law BlockBehind, walked: it returns true. Conditions: the handle of the type error; the lines' cells, and their first tokens' cells, are there.
-/
import Derived.Test.YtccomiigdpfbpaaDoorOpen2
import Derived.Laws.AppendOwnNone
namespace Go.Proofs.YtccomiigdpfbpaaDoor
open Go.RowKit

/-- Lines, and others behind them. -/
def Lns.app (F G : Lns) (k : Nat) : Lns where
  A i := if i < k then F.A i else G.A (i - k)
  len i := if i < k then F.len i else G.len (i - k)
  cap i := if i < k then F.cap i else G.cap (i - k)
  K i := if i < k then F.K i else G.K (i - k)
  L i := if i < k then F.L i else G.L (i - k)
  C i := if i < k then F.C i else G.C (i - k)
  S i := if i < k then F.S i else G.S (i - k)
  N i := if i < k then F.N i else G.N (i - k)
  Sc i := if i < k then F.Sc i else G.Sc (i - k)
theorem Lns.app_kind (F G : Lns) (k i : Nat) (h : i < k) : F.kind i = (F.app G k).kind i := by
  unfold Lns.kind Lns.app
  simp [h]

/-- The slices of some lines. -/
def Lns.row (F : Lns) (n : Nat) : List Value := (List.range n).map fun i => .slice (F.A i) (F.len i) (F.cap i)
theorem Lns.row_len (F : Lns) (n : Nat) : (F.row n).length = n := by simp [Lns.row]
theorem Lns.row_one (F : Lns) (n : Nat) : ∀ u ∈ F.row n, u.oneCell' = true := by
  intro u hu
  unfold Lns.row at hu
  obtain ⟨i, _, rfl⟩ := List.mem_map.1 hu
  rfl
theorem Lns.row_get (F : Lns) (n i : Nat) (h : i < n) : (F.row n)[i]? = some (.slice (F.A i) (F.len i) (F.cap i)) := by
  simp [Lns.row, h]
theorem Lns.row_cells {F : Lns} {w : World} {B O n m : Nat} (h : F.In w B O n) (hm : m ≤ n) : ∀ j u, (F.row m)[j]? = some u → w.cell? ((⟨B, O, none⟩ : Addr).add j) = some u := by
  intro j u hu
  have hj : j < m := by
    rcases Nat.lt_or_ge j m with h1 | h1
    · exact h1
    · rw [List.getElem?_eq_none (by rw [Lns.row_len]; exact h1)] at hu
      cases hu
  have hadd : (⟨B, O, none⟩ : Addr).add j = ⟨B, O + j, none⟩ := by unfold Addr.add; split <;> simp_all
  unfold Lns.row at hu
  rw [hadd, (h j (by omega)).cell, ← hu]
  simp [hj]

theorem Lns.app_in {F G : Lns} {w0 w : World} {B O n k B2 O2 m base g cap : Nat} (hF : F.In w0 B O n) (hk : k ≤ n) (hG : G.In w0 B2 O2 m) (hb : Below w0.heap.size w0 w)
    (hown : w.ownsRow base 35 1 (.slice (some ⟨g, 0, none⟩) (k + m) cap) (k + m) (F.row k ++ G.row m)) : (F.app G k).In w g 0 (k + m) := by
  intro i hi
  have hF' := hF.below hb
  have hG' := hG.below hb
  have hc : w.cell? ⟨g, 0 + i, none⟩ = (F.row k ++ G.row m)[i]? := by rw [Nat.zero_add, hown.cellAt i (by omega)]
  by_cases h : i < k
  · have hx := hF' i (by omega)
    refine ⟨?_, fun hl => ?_⟩
    · rw [hc, List.getElem?_append_left (by rw [Lns.row_len]; exact h), Lns.row_get F k i h]
      simp [Lns.app, h]
    · have hl' : 0 < F.len i := by simpa [Lns.app, h] using hl
      obtain ⟨b, o, ha, ht⟩ := hx.tok hl'
      refine ⟨b, o, by simpa [Lns.app, h] using ha, ?_⟩
      simpa [Lns.app, h] using ht
  · have hx := hG' (i - k) (by omega)
    refine ⟨?_, fun hl => ?_⟩
    · rw [hc, List.getElem?_append_right (by rw [Lns.row_len]; omega), Lns.row_len, Lns.row_get G m (i - k) (by omega)]
      simp [Lns.app, h]
    · have hl' : 0 < G.len (i - k) := by simpa [Lns.app, h] using hl
      obtain ⟨b, o, ha, ht⟩ := hx.tok hl'
      refine ⟨b, o, by simpa [Lns.app, h] using ha, ?_⟩
      simpa [Lns.app, h] using ht

/-- The source of the second append: none, or some lines. -/
structure MoreAt (w : World) (A : Option Addr) (m cap : Nat) (G : Lns) : Prop where
  cells : ∀ a, A = some a → ∀ j u, (G.row m)[j]? = some u → w.cell? (a.add j) = some u
  none_ : A = none → m = 0 ∧ cap = 0
  inn : ∃ B O, G.In w B O m

set_option maxRecDepth 100000 in
set_option maxHeartbeats 8000000 in
theorem behind_any (F G : Lns) (A A2 : Option Addr) (n cap m cap2 : Nat) (a : Int) (w : World) (hg : Handle w) (hm : EndMeet w (.slice A n cap) n (endSpec F n)) (hm2 : EndMeet w (.slice A2 m cap2) m (endSpec G m)) (hcap : n ≤ cap)
    (hA : 0 < n → ∃ B O, A = some ⟨B, O, none⟩ ∧ F.In w B O n) (hM : MoreAt w A2 m cap2 G) :
    Calls Tryd.prog 5 #[.slice A n cap, .int .i64 a, .slice A2 m cap2] w fun e w' => e = .returned (.bool true) ∧ Below w.heap.size w w' := by
  have haw := awake_any w hg
  go_enter Tryd.func5, Tryd.ntmps5
  go_wp2_with fail
  refine haw.mono ?_
  rintro e w1 ⟨rfl, hb1⟩
  clear haw
  have hlt := hm.light w1 hb1
  go_wp2_with fail
  refine hlt.mono ?_
  rintro e w' ⟨r, rfl, hr, rfl⟩
  clear hlt
  cases r with
  | false =>
    clear hr
    go_wp2
    go_ret
    exact ⟨rfl, hb1⟩
  | true =>
    have hn := hr rfl
    clear hr
    have hlt := hm2.light w1 hb1
    go_wp2_with fail
    refine hlt.mono ?_
    rintro e w' ⟨r, rfl, hr, rfl⟩
    clear hlt
    cases r with
    | false =>
      clear hr
      go_wp2
      go_ret
      exact ⟨rfl, hb1⟩
    | true =>
      have hmn := hr rfl
      clear hr
      have hE := hm.fin hn a w1 hb1 (hg.below hb1 hg.pos)
      have HB1 := Lib.hid hb1
      clear hb1
      go_wp2_with fail
      refine hE.mono ?_
      clear hE
      rintro e w2 h2
      cases hs : endSpec F n a with
      | bad L C =>
        rw [hs] at h2
        obtain ⟨bb, rfl, hbb, _, hb2⟩ := h2
        have HB2 : Hid (Below w.heap.size w w2) := HB1.out.trans (hb2.mono HB1.out.size)
        clear hs hb2 hbb
        go_wp2
        go_ret
        exact ⟨rfl, HB2.out⟩
      | ok K o =>
        rw [hs] at h2
        obtain ⟨rfl, hb2⟩ := h2
        have HB2 : Hid (Below w.heap.size w w2) := HB1.out.trans (hb2.mono HB1.out.size)
        have hp := endSpec_place hs
        have hKn := hp.2.2.1
        have HS := Lib.hid hs
        clear hs hb2 hp
        obtain ⟨B, O, rfl, hF⟩ := hA (by omega)
        have HF := Lib.hid hF
        have HMM := Lib.hid hM
        clear hF hA hM hm hm2
        have hk0 : ¬ (K : Int) < 0 := by omega
        have hk1 : ¬ (n : Int) ≤ K := by omega
        obtain ⟨i0, hi, hz0, hz1, hz2⟩ := info_parts Tryd.infoLine
        have hmade : (w2.alloc (.cells #[] 35)).ownsRow w.heap.size 35 1 (.slice (some ⟨w2.heap.size, 0, none⟩) 0 0) 0 [] := World.ownsRow_made w2 #[] 0 HB2.out.size (by decide) rfl
        have hb2' : Below w.heap.size w (w2.alloc (.cells #[] 35)) := HB2.out.alloc HB2.out.size _
        have HB2' := Lib.hid hb2'
        have hc1 : ∀ j u, (F.row (K + 1))[j]? = some u → (w2.alloc (.cells #[] 35)).cell? ((⟨B, O, none⟩ : Addr).add j) = some u :=
          Lns.row_cells (fun i hi => ((HF.out.below (w' := w2.alloc (.cells #[] 35)) (HB2'.out))) i hi) (by omega)
        have HC1 := Lib.hid hc1
        have HO := Lib.hid hmade
        clear hc1 hmade hb2'
        have hbel3 : ∀ w3, (w2.alloc (.cells #[] 35)).grownBy w3 (some w2.heap.size) → Below w.heap.size w w3 := fun w3 h => HB2'.out.grown h (by have := HB2.out.size; simp; omega) (by intro x hx; cases hx; exact HB2.out.size)
        have HB3 := Lib.hid hbel3
        clear hbel3
        obtain ⟨B2, O2, hG⟩ := HMM.out.inn
        have HG := Lib.hid hG
        clear hG
        have hfin : ∀ w4 g c, Below w.heap.size w w4 → w4.ownsRow w.heap.size 35 1 (.slice (some ⟨g, 0, none⟩) (K + 1 + m) c) (K + 1 + m) (F.row (K + 1) ++ G.row m) →
            Calls Tryd.prog 9 #[.slice (some ⟨g, 0, none⟩) (K + 1 + m) c, .int .i64 a] w4 (EndOut w4 (.ok K o)) := by
          intro w4 g c hb4 hown
          have happ := Lns.app_in HF.out (show K + 1 ≤ n by omega) HG.out hb4 hown
          have hE := end_any (F.app G (K + 1)) g 0 (K + 1 + m) c a w4 (hg.below hb4 hg.pos) (by omega) happ
          rw [endSpec_behind (by omega) (fun i hi => Lns.app_kind F G (K + 1) i (by omega)) HS.out] at hE
          exact hE
        have HFIN := Lib.hid hfin
        clear hfin
        cases A2 with
        | none =>
          obtain ⟨hm0, hc0⟩ := HMM.out.none_ rfl
          subst hm0 hc0
          go_wp2_with (first | (at_builtin; refine wpList_append_own _ rfl (.tmp 41) (.tmp 45) 22 rfl w.heap.size 35 i0 (.slice none 0 0) 1 24 Tryd.underlying22 hi hz0 hz1 hz2 rfl (by decide) _ _ _ rfl HO.out ⟨B, O, none⟩ (K + 1) _ (F.row (K + 1)) rfl (by rw [Lns.row_len]; omega) HC1.out (Lns.row_one F _) (by unfold maxLen; omega) (by omega) (by have := HB2.out.size; simp; omega) ?_; intro v1 w3 hown1 hgrow1 _; have hb3 := HB3.out w3 hgrow1; simp only [Nat.zero_add, List.nil_append] at hown1) | (at_builtin; refine wpList_append_own_none rfl (.tmp 46) (.tmp 47) 22 rfl w.heap.size 35 i0 1 Tryd.underlying22 hi _ _ _ rfl hown1 rfl ?_; obtain ⟨g4, c4, hv4, _, _⟩ := World.ownsRow.form hown1 (by omega); subst hv4; have hE4 := HFIN.out w3 g4 c4 hb3 (by simpa [Lns.row] using hown1)) | (go_at_call 9; refine hE4.mono ?_; rintro e w5 ⟨rfl, hb5⟩))
          go_ret
          exact ⟨by simp, hb3.trans (hb5.mono hb3.size)⟩
        | some ad =>
          have hc2 : ∀ w3, Below w.heap.size w w3 → ∀ j u, (G.row m)[j]? = some u → w3.cell? (ad.add j) = some u := fun w3 hb j u hu => by
            have h1 := HMM.out.cells ad rfl j u hu
            exact (hb.cell (World.block_lt_of_cell? w _ h1)).trans h1
          have HC2 := Lib.hid hc2
          clear hc2
          go_wp2_with (first | (at_builtin; refine wpList_append_own _ rfl (.tmp 41) (.tmp 45) 22 rfl w.heap.size 35 i0 (.slice none 0 0) 1 24 Tryd.underlying22 hi hz0 hz1 hz2 rfl (by decide) _ _ _ rfl HO.out ⟨B, O, none⟩ (K + 1) _ (F.row (K + 1)) rfl (by rw [Lns.row_len]; omega) HC1.out (Lns.row_one F _) (by unfold maxLen; omega) (by omega) (by have := HB2.out.size; simp; omega) ?_; intro v1 w3 hown1 hgrow1 _; have hb3 := HB3.out w3 hgrow1; simp only [Nat.zero_add, List.nil_append] at hown1) | (at_builtin; refine wpList_append_own _ rfl (.tmp 46) (.tmp 47) 22 rfl w.heap.size 35 i0 (.slice none 0 0) 1 24 Tryd.underlying22 hi hz0 hz1 hz2 rfl (by decide) _ _ _ rfl hown1 ad m _ (G.row m) rfl (by rw [Lns.row_len]; omega) (HC2.out w3 hb3) (Lns.row_one G _) (by unfold maxLen; omega) (by omega) hb3.size ?_; intro v2 w4 hown2 hgrow2 _; have hb4 : Below w.heap.size w w4 := hb3.grown hgrow2 hb3.size (fun x hx => (hown1.lt x hx).1); obtain ⟨g4, c4, hv4, _, _⟩ := World.ownsRow.form hown2 (by omega); subst hv4; have hE4 := HFIN.out w4 g4 c4 hb4 hown2) | (go_at_call 9; refine hE4.mono ?_; rintro e w5 ⟨rfl, hb5⟩))
          go_ret
          exact ⟨by simp, hb4.trans (hb5.mono hb4.size)⟩
end Go.Proofs.YtccomiigdpfbpaaDoor
