/-
  The contract of (*Mem).Cells: the memory's bytes that aren't 0, by rising addresses. Condition: there are not too many.
-/
import Derived.Test.YticfffndciddgaaMeNew
import Derived.Test.YticfffndciddgaaItSorted
namespace Go.Proofs.Yticfffndciddgaa
open Go.RowKit Go.Maps

/-- Some cells, one behind the other in the memory. -/
def flat (l : List (Int × Int)) : List Value := l.flatMap (fun x => [.int .u32 x.1, .int .u8 x.2])
theorem flat_len (l : List (Int × Int)) : (flat l).length = l.length * 2 := by
  induction l with
  | nil => rfl
  | cons x r ih => simp only [flat, List.flatMap_cons, List.length_append, List.length_cons, List.length_nil] at ih ⊢; omega
theorem flat_snoc (l : List (Int × Int)) (x : Int × Int) : flat (l ++ [x]) = flat l ++ [.int .u32 x.1, .int .u8 x.2] := by simp [flat]
theorem flat_get : ∀ (l : List (Int × Int)) (i : Nat) (x : Int × Int), l[i]? = some x → (flat l)[i * 2]? = some (.int .u32 x.1) ∧ (flat l)[i * 2 + 1]? = some (.int .u8 x.2)
  | [], i, x, h => by simp at h
  | y :: r, 0, x, h => by
    simp at h
    subst h
    simp [flat]
  | y :: r, i + 1, x, h => by
    have h2 := flat_get r i x (by simpa using h)
    have e : flat (y :: r) = .int .u32 y.1 :: .int .u8 y.2 :: flat r := by simp [flat]
    rw [e, show (i + 1) * 2 = i * 2 + 1 + 1 by omega]
    simpa using h2

/-- The memory's cells, as a list. -/
structure Listed (f : Int → Int) (l : List (Int × Int)) : Prop where
  rise : l.Pairwise (fun x y => x.1 < y.1)
  mem : ∀ x, x ∈ l ↔ (0 ≤ x.1 ∧ x.1 ≤ 4294967295 ∧ x.2 = f x.1 ∧ x.2 ≠ 0)
/-- What Cells answers. -/
def CellsOut (w : World) (f : Int → Int) (e : Ending) (w' : World) : Prop :=
  ∃ A c l, e = .returned (.slice A l.length c) ∧ l.length ≤ c ∧ c ≤ maxLen ∧ Listed f l ∧ CellsAt w' A l ∧ l.length ≤ 100000 ∧ Below w.heap.size w w'
theorem CellsOut.mk {w w' : World} {f : Int → Int} {A : Option Addr} {c : Nat} {l : List (Int × Int)} {n : Nat} (hn : n = l.length) (h1 : l.length ≤ c) (h2 : c ≤ maxLen) (h3 : Listed f l) (h4 : CellsAt w' A l) (h5 : l.length ≤ 100000) (h6 : Below w.heap.size w w') : CellsOut w f (.returned (.slice A n c)) w' := ⟨A, c, l, by rw [hn], h1, h2, h3, h4, h5, h6⟩

theorem Try.infoCell : (Try.prog.info? 47).map (fun i => (i.zero, i.size, i.bytes)) = some (some (.agg #[.int .u32 0, .int .u8 0]), 2, 8) := by kernel_rfl

theorem has_wf {H : Type} {w : World} {R : Value → Option (DataW H × List MemPlace)} {b n : Nat} {D : DataW H} (h : w.ownsMap Try.prog 24 R b n D) {a : Int} (ha : has D (.int .u32 a) = true) : 0 ≤ a ∧ a ≤ 4294967295 := by
  obtain ⟨es, clock, _, F, _, rfl⟩ := h
  obtain ⟨q, hq, hqk⟩ := List.any_eq_true.1 ha
  obtain ⟨x, hx, rfl⟩ := List.mem_map.1 (mem_sorted.1 hq)
  obtain ⟨y, hy⟩ := F.reads x hx
  rw [WideElems.rg_of hy] at hqk
  obtain ⟨z, _, hz, hw⟩ := Maps.keyOf_int_inv Try.underlying24 (WideElems.rd_key hy)
  rw [hz] at hqk
  have : z = a := by simpa [Lit.sameKey] using hqk
  exact u32_wf (this ▸ hw)

theorem listed_of {H : Type} {f : Int → Int} {D : DataW H} {ss : List Int} (h : AllKeys D ss) (hp : ss.Pairwise (· < ·)) (hw : ∀ a, has D (.int .u32 a) = true → 0 ≤ a ∧ a ≤ 4294967295) (hD : ∀ a, 0 ≤ a → a ≤ 4294967295 → (has D (.int .u32 a) = true ↔ f a ≠ 0)) : Listed f (ss.map fun a => (a, f a)) := by
  refine ⟨List.pairwise_map.2 hp, fun x => ?_⟩
  obtain ⟨a, v⟩ := x
  constructor
  · intro q
    obtain ⟨y, hy, e⟩ := List.mem_map.1 q
    injection e with e1 e2
    subst e1 e2
    have h1 := (h.2.1 y).1 hy
    obtain ⟨h2, h3⟩ := hw y h1
    exact ⟨h2, h3, rfl, (hD y h2 h3).1 h1⟩
  · rintro ⟨h1, h2, h3, h4⟩
    simp only at h1 h2 h3 h4
    subst h3
    exact List.mem_map.2 ⟨a, (h.2.1 a).2 ((hD a h1 h2).2 h4), rfl⟩

/-- The cells of a row that the call owns. -/
theorem row_cells {w : World} {base g cap n : Nat} {l : List (Int × Int)} (h : w.ownsRow base 47 2 (.slice (some ⟨g, 0, none⟩) n cap) n (flat l)) (hok : ∀ x ∈ l, 0 ≤ x.1 ∧ x.1 ≤ 4294967295 ∧ 0 ≤ x.2 ∧ x.2 ≤ 255) : CellsAt w (some ⟨g, 0, none⟩) l ∧ l.length ≤ cap ∧ cap ≤ maxLen := by
  have hln := h.1
  rw [flat_len] at hln
  rcases h.2 with ⟨q, _⟩ | ⟨g', cap', cur, q, hB, hg, hc1, hc2, hc3, hc⟩
  · cases q
  · injection q with q1 _ q3
    injection q1 with q1
    injection q1 with q1
    subst q1 q3
    have hcell : ∀ j u, (flat l)[j]? = some u → w.cell? ⟨g, j, none⟩ = some u := fun j u hu => by
      rw [← hc] at hu
      have hj : j < n * 2 := by
        have := (List.getElem?_eq_some_iff.1 hu).1
        rw [List.length_take] at this
        omega
      rw [List.getElem?_take_of_lt hj] at hu
      simpa [World.cell?, hg] using hu
    refine ⟨⟨fun i x hx => ⟨g, 0, rfl, (Array.getElem?_eq_some_iff.1 hg).1, ?_, ?_⟩, hok⟩, by omega, hc2⟩
    · rw [Nat.zero_add]; exact hcell _ _ (flat_get l i x hx).1
    · rw [Nat.zero_add]; exact hcell _ _ (flat_get l i x hx).2

theorem zero8 (w : World) : (zeroValue 5).run Try.prog w = .ok (.int .u8 0) w := by kernel_rfl
theorem owns_next {H : Type} {w w' : World} {R : Value → Option (DataW H × List MemPlace)} {b n : Nat} {D : DataW H} {B : Nat} (h : w.ownsMap Try.prog 24 R b n D) (hb : Below B w w') (hB : b < B) : w'.ownsMap Try.prog 24 R b n D := by
  obtain ⟨es, clock, h1, h3⟩ := h
  exact ⟨es, clock, (hb.block b hB).trans h1, h3⟩

theorem owns_row_next {w w' : World} {base g n cap m s B : Nat} {e : TypeId} {l : List Value} (h : w.ownsRow base e s (.slice (some ⟨g, 0, none⟩) n cap) m l) (hb : Below B w w') (hB : g < B) : w'.ownsRow base e s (.slice (some ⟨g, 0, none⟩) n cap) m l := by
  refine ⟨h.1, ?_⟩
  rcases h.2 with ⟨q, _⟩ | ⟨g', cap', cur, q, hB', hg, hr⟩
  · cases q
  · refine .inr ⟨g', cap', cur, q, hB', ?_, hr⟩
    injection q with q1
    injection q1 with q1
    injection q1 with q1
    subst q1
    exact (hb.block g hB).trans hg

theorem owns_row_lt {w : World} {base g n cap m s : Nat} {e : TypeId} {l : List Value} (h : w.ownsRow base e s (.slice (some ⟨g, 0, none⟩) n cap) m l) : g < w.heap.size := by
  rcases h.2 with ⟨q, _⟩ | ⟨g', cap', cur, q, hB', hg, hr⟩
  · cases q
  · injection q with q1
    injection q1 with q1
    injection q1 with q1
    subst q1
    exact (Array.getElem?_eq_some_iff.1 hg).1

/-- The list of cells so far. -/
def cellsOf (f : Int → Int) (ss : List Int) (i : Nat) : List (Int × Int) := (ss.take i).map fun a => (a, f a)
theorem cellsOf_next (f : Int → Int) (ss : List Int) (i : Nat) (x : Int) (h : ss[i]? = some x) : flat (cellsOf f ss (i + 1)) = flat (cellsOf f ss i) ++ [.int .u32 x, .int .u8 (f x)] := by
  unfold cellsOf
  rw [List.take_add_one, h]
  simp [flat_snoc, flat]
theorem two_new (w : World) (a c : Value) (t : TypeId) (j : Nat) (u : Value) (h : [a, c][j]? = some u) : (w.alloc (.cells #[a, c] t)).cell? (Addr.add ⟨w.heap.size, 0, none⟩ j) = some u := by
  match j, h with
  | 0, h => simp at h; subst h; simp [Addr.add]
  | 1, h => simp at h; subst h; simp [Addr.add]

set_option maxRecDepth 100000 in
set_option maxHeartbeats 4000000 in
theorem cells_is {w : World} {p b n : Nat} {f : Int → Int} (h : MemIs w p b n f) (hn : n ≤ 100000) :
    Calls Try.prog 18 #[.pointer (some ⟨p, 0, none⟩)] w (CellsOut w f) := by
  obtain ⟨i1, hi1, hz0, hz1, hz2⟩ := info_parts Try.infoCell
  obtain ⟨D, hown, hD⟩ := h.map
  have hsz : Maps.size D ≤ n := hown.size_le
  have hc := h.cell
  have hlt0 := h.lt
  have H := Lib.hid h
  have HD := Lib.hid hD
  have HOWN := Lib.hid hown
  clear h hD
  go_enter Try.func18, Try.ntmps18
  go_upto_region 2 with (first
    | (at_len; refine wpList_len_own _ rfl _ 49 rfl 24 5 Try.underlying49 _ b n D rfl hown ?_)
    | (at_make; refine wpList_make_own _ rfl _ _ 22 rfl w.heap.size 47 i1 (.agg #[.int .u32 0, .int .u8 0]) 2 Try.underlying22 hi1 hz0 hz1 .i64 .i64 _ (Maps.size D) rfl rfl rfl (by rw [hz2]; omega) (by unfold maxLen; omega) (Nat.le_refl _) ?_; intro w1 hown1 hg1))
  clear hown hc
  have hb1 : Below w.heap.size w w1 := (Below.refl _ _).grown hg1 (Nat.le_refl _) (by simp)
  have hm1 := H.out.next hb1
  have hown2 : w1.ownsMap Try.prog 24 (plainElem Try.prog 5) b n D := HOWN.out.kept hg1 (by simp)
  have hs1 := hb1.size
  have hrow := hown1.alloc (.cells #[.map (some b)] 49)
  have hc1 := hm1.cell
  have HK := Lib.hid (sorted_keys w1.heap.size b n D (by omega) (w1.alloc (.cells #[.map (some b)] 49)) (by simp) (by simp) (hown2.alloc _))
  have HKK := Lib.hid (keys_is (some b) w1)
  have HM := Lib.hid (And.intro hb1 (And.intro hm1 (And.intro hown2 hown1)))
  clear hb1 hm1 hown2 hrow hown1 hg1
  go_wp2_with (first
    | (go_at_call 27; refine HKK.out.mono ?_; rintro e w2 ⟨rfl, rfl⟩)
    | (go_at_call 26; refine HK.out.mono ?_; rintro e w2 ⟨A, cap, ss, rfl, k1, k2, k3, k4, k5⟩))
  have hbw : Below w.heap.size w w2 := (HM.out.1.alloc (by omega) _).trans (k5.mono (by simp; omega))
  have hrow2 : w2.ownsRow w.heap.size 47 2 (.slice (some ⟨w.heap.size, 0, none⟩) 0 (Maps.size D)) 0 [] := owns_row_next HM.out.2.2.2 (((Below.refl w1.heap.size w1).alloc (Nat.le_refl _) (.cells #[.map (some b)] 49)).trans (k5.mono (by simp))) (owns_row_lt HM.out.2.2.2)
  have HS := Lib.hid (And.intro k1 (And.intro k2 (And.intro k3 (And.intro k5 (And.intro hbw hrow2)))))
  have hw12 : w1.heap.size + 1 ≤ w2.heap.size := by have := k5.size; simpa using this
  clear k1 k2 k3 k5 hbw hrow2
  go_loopg [3, 19] (ss.length + 1) (fun k vo vi wr => ∃ i : Nat, vo = .slice (some ⟨w.heap.size, 0, none⟩) i (Maps.size D) ∧ vi = .int .i64 i ∧ i ≤ ss.length ∧ ss.length + 1 ≤ i + k ∧ Hid (wr.ownsRow w.heap.size 47 2 (.slice (some ⟨w.heap.size, 0, none⟩) i (Maps.size D)) i (flat (cellsOf f ss i)) ∧ w2.grownBy wr (some w.heap.size)))
  case atStart => exact ⟨0, rfl, rfl, Nat.zero_le _, by omega, Lib.hid ⟨HS.out.2.2.2.2.2, World.grownBy.refl _ _⟩⟩
  case round =>
    obtain ⟨i, rfl, rfl, hi, hk, HI⟩ := hrel
    by_cases hlt : i < ss.length
    · have hlti : (i : Int) < ss.length := by omega
      obtain ⟨x, hx⟩ : ∃ x, ss[i]? = some x := ⟨_, List.getElem?_eq_getElem hlt⟩
      obtain ⟨g, rfl, hg, e0⟩ := HS.out.2.2.1 i x hx
      have hg' : w1.heap.size < g := by have : w1.heap.size + 1 ≤ g := by simpa using hg
                                        omega
      have hgw : g < w2.heap.size := by
        unfold World.cell? at e0
        cases hq : w2.heap[g]? with
        | none => simp [hq] at e0
        | some o => exact (Array.getElem?_eq_some_iff.1 hq).1
      have e1 : wr.cell? ⟨g, i, none⟩ = some (.int .u32 x) := (World.cell?_of_block (w := w2) (a := ⟨g, i, none⟩) (HI.out.2.block g hgw (fun q => by injection q with q; omega))).trans e0
      have hmr : MemIs wr p b n f := (H.out.next HS.out.2.2.2.2.1).kept HI.out.2 (fun q => by injection q with q; omega) (fun q => by injection q with q; omega)
      have hownr : wr.ownsMap Try.prog 24 (plainElem Try.prog 5) b n D := (owns_next HOWN.out HS.out.2.2.2.2.1 hlt0.2.1).kept HI.out.2 (fun q => by injection q with q; omega)
      have hcr := hmr.cell
      have hin := HS.out.1.2.1 x |>.1 (List.mem_of_getElem? hx)
      obtain ⟨x0, x1⟩ := has_wf HOWN.out hin
      have hv := (HD.out x x0 x1).1
      have hle := HS.out.1.2.2
      have HN := Lib.hid (cellsOf_next f ss i x hx)
      have hlc : i < cap := by omega
      have hrow := HI.out.1.alloc (.cells #[.int .u32 x, .int .u8 (f x)] 47)
      clear e0 hmr hin hx hg
      go_wp2_with (first
        | (at_lookup; refine wpList_lookup_own_int _ rfl _ _ 49 rfl 24 5 .u8 keyed32 Try.underlying49 Try.underlying5 (zero8 _) b n D rfl hownr _ _ rfl (key32 x0 x1) ?_; intro c hat hwc; rw [hv] at hat; injection hat with hat; injection hat with _ hat; subst hat)
        | (at_builtin; refine wpList_append_fits _ rfl _ _ 22 rfl w.heap.size 47 i1 2 Try.underlying22 hi1 hz1 w.heap.size i (Maps.size D) (flat (cellsOf f ss i)) rfl hrow ⟨wr.heap.size, 0, none⟩ 1 1 [.int .u32 x, .int .u8 (f x)] rfl rfl (two_new _ _ _ _) (by intro u hu; simp at hu; rcases hu with rfl | rfl <;> rfl) (by omega) ?_; intro w3 hown3 hg3)
        | go_in)
      have HX : Hid (w3.ownsRow w.heap.size 47 2 (.slice (some ⟨w.heap.size, 0, none⟩) (i + 1) (Maps.size D)) (i + 1) (flat (cellsOf f ss (i + 1))) ∧ w2.grownBy w3 (some w.heap.size)) := Lib.hid ⟨by rw [HN.out]; exact hown3, (HI.out.2.trans (World.grownBy_alloc wr _ _)).trans hg3⟩
      clear hown3 hg3
      go_roundg (ss.length - i)
      case measure => omega
      case rel => exact ⟨i + 1, rfl, by go_num, by omega, by omega, HX⟩
    · have hlti : ¬ (i : Int) < ss.length := by omega
      obtain rfl : i = ss.length := by omega
      go_wp2
      go_ret
      have hl : cellsOf f ss ss.length = ss.map fun a => (a, f a) := by unfold cellsOf; rw [List.take_length]
      have hL := listed_of HS.out.1 HS.out.2.1 (fun a => has_wf HOWN.out) (fun a a0 a1 => (HD.out a a0 a1).2)
      have hr := HI.out.1
      rw [hl] at hr
      have hcl := row_cells hr (fun x hx => by
        obtain ⟨q1, q2, q3, _⟩ := (hL.mem x).1 hx
        exact ⟨q1, q2, q3 ▸ (H.out.byte x.1).1, q3 ▸ (H.out.byte x.1).2⟩)
      refine CellsOut.mk (by simp) hcl.2.1 hcl.2.2 hL hcl.1 ?_ (HS.out.2.2.2.2.1.grown HI.out.2 (by omega) (fun k q => by injection q with q; omega))
      have := HS.out.1.2.2
      simp
      omega
end Go.Proofs.Yticfffndciddgaa
